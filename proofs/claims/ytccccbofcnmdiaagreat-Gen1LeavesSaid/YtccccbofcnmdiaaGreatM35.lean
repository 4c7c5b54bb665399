/- Lemmas that the law stands on. No condition. -/
import Derived.Test.YtccccbofcnmdiaaGreatM34
namespace Go.Proofs.YtccccbofcnmdiaaGreat
set_option linter.unusedSimpArgs false
set_option linter.unusedVariables false
set_option maxRecDepth 100000
set_option maxHeartbeats 51200000
namespace StI
open Go.Shelf Go.RowKit Go.Lib Go.Sort Go.Proofs
def renI:Ren:=⟨fun x=>if x=20 then 218 else x,fun x=>if x=24 then 3 else if x=25 then 232 else if x=22 then 150 else x,fun x=>x⟩
theorem layIns:SlLaysF.n20 Tryz.prog renI where
 mixed:=by kernel_rfl
 f20:=⟨Tryz.f218.name,by kernel_rfl,by kernel_rfl⟩
 t0:=Tryz.underlying0
 a0:=Tryz.isAgg0
 z0:=Tryz.sizeOf0
 v0:=Tryz.zeroValue0
 t3:=Tryz.underlying3
 a3:=Tryz.isAgg3
 z3:=Tryz.sizeOf3
 v3:=Tryz.zeroValue3
 t4:=Tryz.underlying4
 a4:=Tryz.isAgg4
 z4:=Tryz.sizeOf4
 v4:=Tryz.zeroValue4
 t22:=Tryz.underlying150
 a22:=Tryz.isAgg150
 z22:=Tryz.sizeOf150
 v22:=Tryz.zeroValue150
 t25:=Tryz.underlying232
 a25:=Tryz.isAgg232
 z25:=Tryz.sizeOf232
 v25:=Tryz.zeroValue232
 a24:=Tryz.isAgg3
 z24:=Tryz.sizeOf3
section
variable {α:Type} [Inhabited α] {enc:α->Value} {cf:α->α->Int} {g:Nat} {cb:Array Value}
structure CmpOk (enc:α->Value) (cf:α->α->Int) (g:Nat) (cb:Array Value) (blk off size:Nat) (w0:World):Prop where
 swo:SWO (ltOf cf)
 ent:∀ args w,(callFunc g args).run Tryz.prog w = .ok (.enter g args) w
 lays:CmpLays1 Tryz.prog g cb enc cf blk off size w0
theorem ins_any (blk off cap a b:Nat) (d0 d:Array α) (w0 w:World) (C:CmpOk enc cf g cb blk off d0.size w0) (R:Row1 enc w0 blk off d0) (hs:d.size=d0.size) (S:SW enc w0 blk off d w) (hab:a<=b) (hb:b<=d.size) (hsz:d.size<4611686018427387904) :
  Calls Tryz.prog 218 #[.slice (some ⟨blk,off,none⟩) d.size cap,.int .i64 a,.int .i64 b,.func (.func g) #[] cb] w fun e w'=>e = .returned (.tuple #[])/\SW enc w0 blk off (Sort.insertionSort (ltOf cf) d a b) w':=
 Any.insertionSortCmpFunc_s layIns enc cf g cb blk off cap a b d0 d w0 w C.ent C.lays R hs.symm S hab hb hsz
def QT (cf:α->α->Int) (lt':α->α->Bool) (y x:α):Prop:=decide (cf y x<0)=lt' y x
theorem ins_step (hC:SWO (ltOf cf)) (lt':α->α->Bool) (hO:SWO lt') {d dk:Array α} {n p b:Nat} (h:InsInv (QT cf lt') lt' d dk n 20 (p * 20)) (hn:n<=d.size) (hpn:p * 20<=n) (hb:b=min (p * 20+20) n)
  (hQ:∀ i j,i<j->j<n->QT cf lt' d[j]! d[i]!):InsInv (QT cf lt') lt' d (Sort.insertionSort (ltOf cf) dk (p * 20) b) n 20 b:=by
 have e:Sort.insertionSort (ltOf cf) dk (p * 20) b=Sort.insertionSort lt' dk (p * 20) b:=
  insertion_congr hC dk (p * 20) b (by rw [h.size];omega) fun q t h1 h2 h3=>by
   rw [h.rest q (by omega),h.rest t h1];exact hQ t q h2 (by omega)
 rw [e]
 have hh:=insertionSort_holds hO dk (p * 20) b (by omega) (by rw [h.size];omega)
 exact h.step hn hpn hb hh.1 hh.2


theorem stable_any (lt':α->α->Bool) (hO:SWO lt') (blk off cap n:Nat) (d:Array α) (w0:World) (C:CmpOk enc cf g cb blk off d.size w0) (R:Row1 enc w0 blk off d) (hn:n=d.size) (hsz:n<1152921504606846976)
  (hQ:∀ i j,i<j->j<n->QT cf lt' d[j]! d[i]!) :
  Calls Tryz.prog 210 #[.slice (some ⟨blk,off,none⟩) n cap,.int .i64 n,.func (.func g) #[] cb] w0 fun e w'=>e = .returned (.tuple #[]) /\ ∃ d',PermIn 0 n d d' /\ SortedIn lt' 0 n d' /\ SW enc w0 blk off d' w':=by
 have S0:Aside (SW enc w0 blk off d w0):=SW.start R.hH
 have HQ:Hid (∀ i j,i<j->j<n->QT cf lt' d[j]! d[i]!):=Lib.hid hQ
 have HN:Hid (n=d.size):=Lib.hid hn
 have HI0:Hid (InsInv (QT cf lt') lt' d d n 20 0):=Lib.hid (InsInv.start hQ)
 have hsym:=fun N=>sym_any layTry enc cf lt' hO g cb blk off cap n d w0 C.ent (by rw [hn];exact C.lays) R hn.symm (by omega) N
 have HSym:=Lib.hid hsym
 clear hQ hn hsym
 go_enter Tryz.func210,Tryz.ntmps210
 go_wp2
 go_loopg [7,8] n (fun kx s7 s8 wr=>∃ (a:Nat) (dk:Array α),s7 = .int .i64 a/\s8 = .int .i64 ((a:Int)+20)/\a<=n/\n - a<=kx/\Hid (∃ p,a=p * 20)/\Hid (InsInv (QT cf lt') lt' d dk n 20 a)/\Aside (SW enc w0 blk off dk wr))
 case atStart=>exact ⟨0,d,rfl,rfl,Nat.zero_le _,by omega,⟨0,rfl⟩,HI0,S0⟩
 case round=>
  clear S0 HI0
  obtain ⟨a,dk,rfl,rfl,han,hkx,HP,HI,S1⟩:=hrel
  have hds:dk.size=n:=by rw [HN.out];exact HI.out.size
  by_cases hlt:a+20<=n
  ·have hins:=ins_any blk off cap a (a+20) d dk w0 wr C R (by rw [hds];exact HN.out) S1.out (by omega) (by omega) (by omega)
   rw [hds,show ((a+20:Nat):Int)=(a:Int)+20 by omega] at hins
   have HIns:=Lib.hid hins
   have HI2:Hid (InsInv (QT cf lt') lt' d (Sort.insertionSort (ltOf cf) dk a (a+20)) n 20 (a+20)):=by
    obtain ⟨p,hp⟩:=HP.out
    have H:=HI.out
    subst hp
    exact Lib.hid (ins_step C.swo lt' hO H (Nat.le_of_eq HN.out) han (by omega) HQ.out)
   have hltz:(a:Int)+20<=(n:Int):=by omega
   clear hins hds S1 HI
   go_wp2_with (go_at_call 218;refine HIns.out.mono ?_;rintro e w' ⟨rfl,S2⟩)
   go_roundg (n - (a+20))
   case measure=>omega
   case rel=>exact ⟨a+20,_,by go_num,by first | rfl | go_num | (congr 1;omega),hlt,Nat.le_refl _,Lib.hid (by obtain ⟨p,hp⟩:=HP.out;exact ⟨p+1,by omega⟩),HI2,S2⟩
  ·have hins:=ins_any blk off cap a n d dk w0 wr C R (by rw [hds];exact HN.out) S1.out (by omega) (by omega) (by omega)
   rw [hds] at hins
   have HIns:=Lib.hid hins
   have HI2:Hid (PassInv (QT cf lt') lt' d (Sort.insertionSort (ltOf cf) dk a n) n 20 0):=by
    obtain ⟨p,hp⟩:=HP.out
    have H:=HI.out
    subst hp
    exact Lib.hid ((ins_step C.swo lt' hO H (Nat.le_of_eq HN.out) han (by omega) HQ.out).pass (Nat.le_refl _))
   have hltz:¬ (a:Int)+20<=(n:Int):=by omega
   clear hins hds S1 HI HP hkx
   go_wp2_with (go_at_call 218;refine HIns.out.mono ?_;rintro e w1 ⟨rfl,S2⟩)
   have SA:Aside _:=S2
   clear S2
   generalize Sort.insertionSort (ltOf cf) dk a n=d1 at HI2 SA
   clear HIns hlt hltz han
   go_loopg [6,7,8,9] n (fun kx s6 _ _ _ wr=>∃ (L:Nat) (dk:Array α),s6 = .int .i64 L/\20<=L/\L<=2 * n+20/\n - L<=kx/\Hid (PassInv (QT cf lt') lt' d dk n L 0)/\Aside (SW enc w0 blk off dk wr))
   case atStart=>exact ⟨20,d1,rfl,Nat.le_refl _,by omega,by omega,HI2,SA⟩
   case round=>
    clear SA HI2
    obtain ⟨L,d2,rfl,hL,hL2,hkx,HP,S1⟩:=hrel
    by_cases hLn:L<n
    ·have hLnz:(L:Int)<(n:Int):=by omega
     obtain ⟨wo,hwo⟩:∃ wo,wo=wr:=⟨_,rfl⟩
     subst hwo
     go_wp2
     go_loopg [7,8] n (fun kx s7 s8 wr=>∃ (a:Nat) (dk:Array α),s7 = .int .i64 a/\s8 = .int .i64 ((a:Int)+2 * (L:Int))/\a<=n/\n - a<=kx/\Hid (∃ p,a=p * (2 * L))/\Hid (PassInv (QT cf lt') lt' d dk n L a)/\Aside (SW enc w0 blk off dk wr))
     case atStart=>exact ⟨0,d2,rfl,by first | rfl | go_num | (congr 1;omega),Nat.zero_le _,by omega,⟨0,by omega⟩,HP,S1⟩
     case round=>
      clear S1 HP
      obtain ⟨a,dk,rfl,rfl,han,hkx2,HPa,HPi,S1⟩:=hrel
      have hds:dk.size=n:=by rw [HN.out];exact HPi.out.size
      by_cases hlt:a+2 * L<=n
      ·have hr:SortedIn lt' a (a+L) dk/\SortedIn lt' (a+L) (a+2 * L) dk/\CrossQ (QT cf lt') dk a (a+L) (a+2 * L):=by
        obtain ⟨p,hp⟩:=HPa.out
        have H:=HPi.out
        subst hp
        exact H.ready (by omega) (by omega) (by omega)
       have hcon:=HSym.out (2 * L+1) a (a+L) (a+2 * L) dk wr (by omega) hds S1.out (by omega) (by omega) hlt hr.1 hr.2.1 hr.2.2
       rw [show ((a+L:Nat):Int)=(a:Int)+(L:Int) by omega,show ((a+2 * L:Nat):Int)=(a:Int)+2 * (L:Int) by omega] at hcon
       have HCon:=Lib.hid hcon
       have hltz:(a:Int)+2 * (L:Int)<=(n:Int):=by omega
       clear hcon hr hds S1
       go_wp2_with (go_at_call 219;refine HCon.out.mono ?_;rintro e w' ⟨rfl,d3,P3,O3,S3⟩)
       have HPn:Hid (PassInv (QT cf lt') lt' d d3 n L (a+2 * L)):=by
        obtain ⟨p,hp⟩:=HPa.out
        have H:=HPi.out
        subst hp
        exact Lib.hid (H.step (by omega) (Nat.le_of_eq HN.out) (by omega) P3 O3)
       clear P3 O3
       go_roundg (n - (a+2 * L))
       case measure=>omega
       case rel=>exact ⟨a+2 * L,d3,by first | rfl | go_num | (congr 1;omega),by first | rfl | go_num | (congr 1;omega),hlt,Nat.le_refl _,Lib.hid (by obtain ⟨p,hp⟩:=HPa.out;exact ⟨p+1,by rw [hp,Nat.add_mul,Nat.one_mul]⟩),HPn,S3⟩
      ·have hltz:¬ (a:Int)+2 * (L:Int)<=(n:Int):=by omega
       by_cases ht:a+L<n
       ·have htz:(a:Int)+(L:Int)<(n:Int):=by omega
        have hr:SortedIn lt' a (a+L) dk/\SortedIn lt' (a+L) n dk/\CrossQ (QT cf lt') dk a (a+L) n:=by
         obtain ⟨p,hp⟩:=HPa.out
         have H:=HPi.out
         subst hp
         exact H.ready (by omega) (by omega) (by omega)
        have hcon:=HSym.out (n+1) a (a+L) n dk wr (by omega) hds S1.out (by omega) (by omega) (Nat.le_refl _) hr.1 hr.2.1 hr.2.2
        rw [show ((a+L:Nat):Int)=(a:Int)+(L:Int) by omega] at hcon
        have HCon:=Lib.hid hcon
        clear hcon hr hds S1
        go_wp2_with (go_at_call 219;refine HCon.out.mono ?_;rintro e w' ⟨rfl,d3,P3,O3,S3⟩)
        have HPn:Hid (PassInv (QT cf lt') lt' d d3 n (2 * L) 0):=by
         obtain ⟨p,hp⟩:=HPa.out
         have H:=HPi.out
         subst hp
         exact Lib.hid ((H.step (e:=n) (by omega) (Nat.le_of_eq HN.out) (by omega) P3 O3).next (Nat.le_refl _))
        clear P3 O3
        go_roundg (n - 2 * L)
        case measure=>omega
        case rel=>exact ⟨2 * L,d3,by first | rfl | go_num | (congr 1;omega),by omega,by omega,Nat.le_refl _,HPn,S3⟩
       ·have htz:¬ (a:Int)+(L:Int)<(n:Int):=by omega
        have HPn:Hid (PassInv (QT cf lt') lt' d dk n (2 * L) 0):=by
         obtain ⟨p,hp⟩:=HPa.out
         have H:=HPi.out
         subst hp
         exact Lib.hid ((H.tail (by omega) (by omega)).next (Nat.le_refl _))
        go_wp2
        go_roundg (n - 2 * L)
        case measure=>omega
        case rel=>exact ⟨2 * L,dk,by first | rfl | go_num | (congr 1;omega),by omega,by omega,Nat.le_refl _,HPn,S1⟩
    ·have hLnz:¬ (L:Int)<(n:Int):=by omega
     go_wp2
     go_end0
     have hw:=HP.out.whole (by omega)
     exact ⟨rfl,d2,hw.1,hw.2,S1.out⟩

theorem sortStable_any (lt':α->α->Bool) (hO:SWO lt') (blk off cap n:Nat) (d:Array α) (w0:World) (C:CmpOk enc cf g cb blk off d.size w0) (R:Row1 enc w0 blk off d) (hn:n=d.size) (hsz:n<1152921504606846976)
  (hQ:∀ i j,i<j->j<n->QT cf lt' d[j]! d[i]!) :
  Calls Tryz.prog 201 #[.slice (some ⟨blk,off,none⟩) n cap,.func (.func g) #[] cb] w0 fun e w'=>e = .returned (.tuple #[]) /\ ∃ d',PermIn 0 n d d' /\ SortedIn lt' 0 n d' /\ SW enc w0 blk off d' w':=by
 have hcon:=Lib.hid (stable_any lt' hO blk off cap n d w0 C R hn hsz hQ)
 clear R hQ hn
 go_enter Tryz.func201,Tryz.ntmps201
 go_wp2_with (go_at_call 210;refine hcon.out.mono ?_;rintro e w' ⟨rfl,h⟩)
 go_end0
 exact ⟨rfl,h⟩

theorem ins_none (A:Option Addr) (c:Nat) (w:World):Calls Tryz.prog 218 #[.slice A 0 c,.int .i64 0,.int .i64 0,.func (.func g) #[] cb] w fun e w'=>e = .returned (.tuple #[])/\w=w':=by
 go_enter Tryz.func218,Tryz.ntmps218
 go_wp2
 refine wp_loop_rounds 1 ?_
 rw [rounds_succ]
 go_wp2
 go_end0
 exact ⟨rfl,rfl⟩

theorem stable_none (A:Option Addr) (c:Nat) (w:World):Calls Tryz.prog 210 #[.slice A 0 c,.int .i64 0,.func (.func g) #[] cb] w fun e w'=>e = .returned (.tuple #[])/\w=w':=by
 go_enter Tryz.func210,Tryz.ntmps210
 go_wp2
 refine wp_loop_rounds 1 ?_
 rw [rounds_succ]
 go_wp2_with (go_at_call 218;refine (ins_none _ _ _).mono ?_;rintro e w' ⟨rfl,rfl⟩)
 refine wp_loop_rounds 1 ?_
 rw [rounds_succ]
 go_wp2
 go_end0
 exact ⟨rfl,rfl⟩

theorem sortStable_none (A:Option Addr) (c:Nat) (w:World):Calls Tryz.prog 201 #[.slice A 0 c,.func (.func g) #[] cb] w fun e w'=>e = .returned (.tuple #[])/\w=w':=by
 go_enter Tryz.func201,Tryz.ntmps201
 go_wp2_with (go_at_call 210;refine (stable_none _ _ _).mono ?_;rintro e w' ⟨rfl,rfl⟩)
 go_end0
 exact ⟨rfl,rfl⟩
end
end StI
section
open Go.Shelf Go.RowKit Go.Lib Go.Sort Go.Proofs
section
variable {α:Type} [Inhabited α] {enc:α->List Value} {k:Nat}
theorem own_holds (hk:∀ x,(enc x).length=k) (h0:0<k) {w:World} {base g cap:Nat} {e:TypeId} {l:List α} (h:OwnK w base e k (.slice (some ⟨g,0,none⟩) l.length cap) (l.map enc)):HoldsK enc k w g 0 l.toArray:=by
 intro t ht
 rw [size_flatK,List.size_toArray] at ht
 have hi:t / k<l.length:=(Nat.div_lt_iff_lt_mul h0).2 ht
 have hj:t % k<k:=Nat.mod_lt _ h0
 rw [get_flatK _ _ _ _ (by rw [List.size_toArray];exact ht),getElem!_pos l.toArray (t / k) (by simpa using hi)]
 have hx:(l.map enc)[t / k]? = some (enc l[t / k]):=by rw [List.getElem?_map,List.getElem?_eq_getElem hi];rfl
 have hv:(enc l[t / k])[t % k]? = some ((enc l[t / k])[t % k]'(by rw [hk];exact hj)):=List.getElem?_eq_getElem _
 have hf:=flat_get h.1 hx hv
 rw [Nat.div_add_mod' t k] at hf
 have c:=World.ownsRow.cells h.2 (g:=g) rfl _ _ hf
 rw [Addr.add_lit] at c
 refine ⟨?_,?_⟩
 ·rw [c]
  have e1:(enc l[t / k])[t % k]! = (enc l[t / k])[t % k]'(by rw [hk];exact hj):=getElem!_pos _ _ _
  simp only [tD]
  rw [e1];rfl
 ·have h2:=h.2
  rw [List.length_map] at h2
  have f:=World.ownsRow.frozenAt h2 t
  rwa [Nat.zero_add]
theorem own_row (hk:∀ x,(enc x).length=k) (h0:0<k) (h1:∀ x,∀ v ∈ enc x,v.oneCell' = true) {w:World} {base g cap:Nat} {e:TypeId} {l:List α} (h:OwnK w base e k (.slice (some ⟨g,0,none⟩) l.length cap) (l.map enc)):RowK enc k w g 0 l.toArray:=
 ⟨hk,h1,own_holds hk h0 h,(World.ownsRow.lt h.2 g rfl).2⟩
theorem holds_rdk (hk:∀ x,(enc x).length=k) {w:World} {g:Nat} {D:Array α} (h:HoldsK enc k w g 0 D):RdK w k (some ⟨g,0,none⟩) (D.toList.map enc):=by
 intro i x hx
 rw [List.getElem?_map] at hx
 have hi:i<D.size:=by
  rcases Nat.lt_or_ge i D.size with h | h
  ·exact h
  ·rw [List.getElem?_eq_none (by simpa using h)] at hx;cases hx
 have e:enc D[i]! = x:=by
  rw [List.getElem?_eq_getElem (by simpa using hi)] at hx
  simp at hx
  rw [getElem!_pos D i hi];exact hx
 subst e
 refine ⟨g,0,rfl,fun j v hv=>?_⟩
 obtain ⟨hj,e⟩:=List.getElem?_eq_some_iff.1 hv
 have c:=(h.cell (i:=i) (c:=j) hi (by rw [<- hk D[i]!];exact hj)).1
 rw [getElem!_pos (enc D[i]!) j hj,e] at c
 exact c
theorem sw_below {w W:World} {g B:Nat} {D:Array α} (h:SWK enc k w g 0 D W) (hB:B<=g) (hB2:B<=w.heap.size):Below B w W:=by
 obtain ⟨n,os,rfl⟩:=h
 unfold sortWorldK putRowK
 have h1:Below B w (putRow id (Sort.ahead w n) g 0 (flatK enc k D)):=Lib.below_putRow (Below.refl _ _) hB
 exact ⟨h1.os,h1.tape,h1.output,by rw [size_grow];exact Nat.le_trans h1.size (Nat.le_add_right _ _),fun k hk=>by
  rw [<- h1.block k hk]
  unfold grow
  simp only []
  rw [Array.getElem?_append_left (Nat.lt_of_lt_of_le hk (Nat.le_trans hB2 h1.size))]⟩
end
end
section
open Go.Shelf Go.RowKit Go.Lib Go.Sort Go.Proofs
section
variable {β:Type}
def tagd (l:List β):Array (β × Nat):=l.zipIdx.toArray
theorem tagd_size (l:List β):(tagd l).size=l.length:=by simp [tagd]
theorem tagd_get [Inhabited β] {l:List β} {i:Nat} (h:i<l.length):(tagd l)[i]! = (l[i],i):=by
 rw [getElem!_pos _ i (by rw [tagd_size];exact h)]
 simp [tagd]
theorem tagd_map (l:List β) {γ:Type} (f:β->γ):(tagd l).toList.map (fun x=>f x.1)=l.map f:=by
 unfold tagd
 simp only
 apply List.ext_getElem (by simp)
 intro i h1 h2
 simp
def ltTag (lt:β->β->Bool) (x y:β × Nat):Bool:=lt x.1 y.1 || (!lt y.1 x.1 && decide (x.2<y.2))
theorem ltTag_iff {lt:β->β->Bool} {x y:β × Nat}:ltTag lt x y=true ↔ lt x.1 y.1=true ∨ (lt y.1 x.1=false/\x.2<y.2):=by unfold ltTag;simp
theorem ltTag_no {lt:β->β->Bool} {x y:β × Nat}:ltTag lt x y=false ↔ lt x.1 y.1=false/\(lt y.1 x.1=false -> ¬ x.2<y.2):=by unfold ltTag;simp
theorem swo_left {lt:β->β->Bool} (h:SWO lt) {x y z:β} (h1:lt x y=true) (h2:lt z y=false):lt x z=true:=by
 cases h3:lt x z
 ·have:=h.ntrans x z y h3 h2
  rw [h1] at this;cases this
 ·rfl
theorem swo_right {lt:β->β->Bool} (h:SWO lt) {x y z:β} (h1:lt y x=false) (h2:lt y z=true):lt x z=true:=by
 cases h3:lt x z
 ·have:=h.ntrans y x z h1 h3
  rw [h2] at this;cases this
 ·rfl
theorem swoTag {lt:β->β->Bool} (h:SWO lt):SWO (ltTag lt) where
 irrefl x:=by rw [ltTag_no];exact ⟨h.irrefl _,fun _=>by omega⟩
 trans x y z h1 h2:=by
  rw [ltTag_iff] at *
  rcases h1 with h1 | ⟨h1,k1⟩ <;> rcases h2 with h2 | ⟨h2,k2⟩
  ·exact .inl (h.trans _ _ _ h1 h2)
  ·exact .inl (swo_left h h1 h2)
  ·exact .inl (swo_right h h1 h2)
  ·exact .inr ⟨h.ntrans _ _ _ h2 h1,by omega⟩
 ntrans x y z h1 h2:=by
  rw [ltTag_no] at *
  refine ⟨h.ntrans _ _ _ h1.1 h2.1,fun hz=>?_⟩
  have e1:lt y.1 x.1=false:=by
   cases h3:lt y.1 x.1
   ·rfl
   ·have:=swo_left h h3 hz
    rw [h2.1] at this;cases this
  have e2:lt z.1 y.1=false:=by
   cases h3:lt z.1 y.1
   ·rfl
   ·have:=swo_left h h3 h1.1
    rw [hz] at this;cases this
  have:=h1.2 e1
  have:=h2.2 e2
  omega
def cfTag (cf:β->β->Int) (x y:β × Nat):Int:=cf x.1 y.1
theorem swoCf {cf:β->β->Int} (h:SWO (ltOf cf)):SWO (ltOf (cfTag cf)):=⟨fun x=>h.irrefl x.1,fun x y z=>h.trans x.1 y.1 z.1,fun x y z=>h.ntrans x.1 y.1 z.1⟩
theorem tagd_say [Inhabited β] {cf:β->β->Int} {l:List β} {i j:Nat} (hij:i<j) (hj:j<l.length):decide (cfTag cf (tagd l)[j]! (tagd l)[i]! < 0)=ltTag (ltOf cf) (tagd l)[j]! (tagd l)[i]!:=by
 rw [tagd_get hj,tagd_get (show i<l.length by omega)]
 unfold ltTag cfTag ltOf
 simp only
 rw [decide_eq_false (show ¬ j<i by omega),Bool.and_false,Bool.or_false]
theorem stable_places [Inhabited β] {cf:β->β->Int} {l:List β} {D:Array (β × Nat)} (hp:PermIn 0 l.length (tagd l) D) (hs:SortedIn (ltTag (ltOf cf)) 0 l.length D) :
  ∃ W:List Nat,W.Perm (List.range l.length)/\W.Pairwise (Fore fun i y=>ltOf cf (l.getD i default) (l.getD y default))/\D.toList.map (fun x=>x.1)=W.map fun i=>l.getD i default:=by
 obtain ⟨h1,_,h3⟩:=hp
 rw [tagd_size] at h1
 have h4:D.toList.Perm (tagd l).toList:=by
  have e:D.extract 0 l.length=D:=by rw [<- h1];simp
  have e2:(tagd l).extract 0 l.length=tagd l:=by rw [<- tagd_size l];simp
  rw [e,e2] at h3
  exact h3
 have hz:∀ x ∈ D.toList,x.2<l.length/\x.1=l.getD x.2 default:=by
  intro x hx
  have hx2:=h4.subset hx
  unfold tagd at hx2
  simp only at hx2
  obtain ⟨i,hi,e⟩:=List.getElem_of_mem hx2
  rw [List.getElem_zipIdx] at e
  have hi':i<l.length:=by simpa using hi
  subst e
  simp only [Nat.zero_add]
  exact ⟨hi',by rw [List.getD_eq_getElem?_getD,List.getElem?_eq_getElem hi',Option.getD_some]⟩
 have hperm:(D.toList.map (·.2)).Perm (List.range l.length):=by
  refine (h4.map (·.2)).trans ?_
  unfold tagd
  simp only
  rw [show l.zipIdx.map (fun x=>x.2)=List.range l.length by
   apply List.ext_getElem (by simp)
   intro i h1 h2
   simp]
 refine ⟨D.toList.map (·.2),hperm,?_,?_⟩
 ·have hnd:(D.toList.map (·.2)).Nodup:=hperm.nodup_iff.2 List.nodup_range
  rw [List.pairwise_iff_getElem]
  intro i j hi hj hij
  have hi':i<D.size:=by simpa using hi
  have hj':j<D.size:=by simpa using hj
  have hso:=hs i j (Nat.zero_le _) hij (by omega)
  rw [getElem!_pos D i hi',getElem!_pos D j hj'] at hso
  have ei:=hz D[i] (by simp)
  have ej:=hz D[j] (by simp)
  have hne:D[i].2 ≠ D[j].2:=by
   have:=List.pairwise_iff_getElem.1 hnd i j hi hj hij
   simpa using this
  rw [ltTag_no,ei.2,ej.2] at hso
  simp only [List.getElem_map,Array.getElem_toList]
  cases hc:ltOf cf (l.getD D[i].2 default) (l.getD D[j].2 default)
  ·refine .inr ⟨hso.1,?_⟩
   have:=hso.2 hc
   omega
  ·exact .inl hc
 ·rw [List.map_map]
  refine List.map_congr_left fun x hx=>?_
  exact (hz x hx).2
end
section
variable {α:Type} [Inhabited α] {enc:α->List Value} {k:Nat}
theorem heap_sort {w:World} {g n:Nat} {os:Array Obj} {cur:Array Value} {e:TypeId} {fr:Nat × Nat} (F:Array Value) (hb:w.heap[g]? = some (.cells cur e fr)) :
  (grow (putRow id (Sort.ahead w n) g 0 F) os).heap[g]? = some (.cells (putCells id 0 F cur) e fr):=by
 have hg:g<w.heap.size:=(Array.getElem?_eq_some_iff.1 hb).1
 rw [heap_grow_old _ _ (by simpa using hg)]
 simp [putRow,mapBlock,Sort.ahead,Array.getElem?_modify,hb,onCells]
theorem take_put (cur F:Array Value) (h:F.size<=cur.size):(putCells id 0 F cur).toList.take F.size=F.toList:=by
 apply List.ext_getElem?
 intro j
 by_cases hj:j<F.size
 ·rw [List.getElem?_take_of_lt hj,Array.getElem?_toList,Array.getElem?_toList]
  simp [putCells,hj,show j<cur.size by omega]
 ·rw [List.getElem?_take_eq_none (by omega),List.getElem?_eq_none (by simp;omega)]
theorem flatK_is (hk:∀ x,(enc x).length=k) (h0:0<k) (D:Array α):(flatK enc k D).toList=(D.toList.map enc).flatten:=by
 have hl:∀ x ∈ D.toList.map enc,x.length=k:=by
  intro x hx
  rw [List.mem_map] at hx
  obtain ⟨y,_,rfl⟩:=hx
  exact hk y
 have hlen:(D.toList.map enc).flatten.length=D.size * k:=by rw [flat_length hl];simp
 apply List.ext_getElem (by rw [hlen];simp)
 intro t h1 h2
 have ht:t<D.size * k:=by rw [<- hlen];exact h2
 have hi:t / k<D.size:=(Nat.div_lt_iff_lt_mul h0).2 ht
 have hj:t % k<k:=Nat.mod_lt _ h0
 have hx:(D.toList.map enc)[t / k]? = some (enc D[t / k]!):=by
  rw [List.getElem?_map,Array.getElem?_toList,Array.getElem?_eq_getElem hi,getElem!_pos D (t / k) hi];rfl
 have hv:(enc D[t / k]!)[t % k]? = some ((enc D[t / k]!)[t % k]'(by rw [hk];exact hj)):=List.getElem?_eq_getElem _
 have hf:=flat_get hl hx hv
 rw [Nat.div_add_mod' t k,List.getElem?_eq_getElem h2] at hf
 injection hf with hf
 rw [hf]
 have hg:=get_flatK enc k D t ht
 rw [getElem!_pos _ t (by rw [size_flatK];exact ht),getElem!_pos (enc D[t / k]!) (t % k) (by rw [hk];exact hj)] at hg
 simpa using hg
theorem own_sorted (hk:∀ x,(enc x).length=k) (h0:0<k) {w w':World} {base g cap:Nat} {e:TypeId} {l:List α} {D:Array α} (h:OwnK w base e k (.slice (some ⟨g,0,none⟩) l.length cap) (l.map enc)) (hS:SWK enc k w g 0 D w') (hD:D.size=l.length) :
  OwnK w' base e k (.slice (some ⟨g,0,none⟩) l.length cap) (D.toList.map enc):=by
 obtain ⟨n,os,rfl⟩:=hS
 have hfl:(flatK enc k D).size=l.length * k:=by rw [size_flatK,hD]
 obtain ⟨hk',hl',hr⟩:=h
 rw [List.length_map] at hr
 rcases hr with ⟨hv,_⟩ | ⟨g',cap',cur,hv,hb,hg,hn,hm,hc,ht⟩
 ·cases hv
 ·injection hv with hv1 hv2 hv3
  injection hv1 with hv1
  injection hv1 with hv1
  subst hv1 hv3
  have hml:(D.toList.map enc).length=l.length:=by simp [hD]
  refine ⟨fun x hx=>?_,?_,.inr ⟨g,cap,_,?_,hb,heap_sort (flatK enc k D) hg,?_,hm,by simp [putCells,hc],?_⟩⟩
  ·rw [List.mem_map] at hx
   obtain ⟨y,_,rfl⟩:=hx
   exact hk y
  ·rw [hml,<- flatK_is hk h0];simp [hD]
  ·rw [hml]
  ·rw [hml];exact hn
  ·rw [hml,<- flatK_is hk h0,<- hfl]
   exact take_put cur _ (by rw [hfl,hc];exact Nat.mul_le_mul_right k hn)
end
end
namespace StI
open Go.Shelf Go.RowKit Go.Lib Go.Sort Go.Proofs
def encV {β:Type} (val:β->Int) (x:β × Nat):Value:=.int .i64 (val x.1)
theorem oneV {β:Type} (val:β->Int):OneCell (encV val):=fun _=>rfl
section
variable {β:Type} [Inhabited β] {val:β->Int} {cf:β->β->Int} {g:Nat} {cb:Array Value}
theorem grown_sort (val:β->Int) (w:World) (b n:Nat) (d:Array (β × Nat)) (os:Array Obj):w.grownBy (sortWorld (encV val) w b 0 n d os) (some b):=by
 refine ⟨rfl,rfl,rfl,by simp [sortWorld],fun k hk hne=>?_⟩
 unfold sortWorld
 rw [heap_grow_old _ _ (by simpa using hk)]
 have:b ≠ k:=fun e=>hne (by rw [e])
 simp [putRow,mapBlock,Sort.ahead,Array.getElem?_modify,this]
theorem heap_sortV {w:World} {b n:Nat} {os:Array Obj} {cur:Array Value} {e:TypeId} {fr:Nat × Nat} (d:Array (β × Nat)) (hb:w.heap[b]? = some (.cells cur e fr)):(sortWorld (encV val) w b 0 n d os).heap[b]? = some (.cells (putCells (encV val) 0 d cur) e fr):=by
 have hg:b<w.heap.size:=(Array.getElem?_eq_some_iff.1 hb).1
 unfold sortWorld
 rw [heap_grow_old _ _ (by simpa using hg)]
 simp [putRow,mapBlock,Sort.ahead,Array.getElem?_modify,hb,onCells]
theorem take_putV (cur:Array Value) (d:Array (β × Nat)) (h:d.size<=cur.size):(putCells (encV val) 0 d cur).toList.take d.size=d.toList.map (encV val):=by
 apply List.ext_getElem?
 intro j
 by_cases hj:j<d.size
 ·rw [List.getElem?_take_of_lt hj,Array.getElem?_toList]
  simp [putCells,hj,show j<cur.size by omega]
 ·rw [List.getElem?_take_eq_none (by omega),List.getElem?_eq_none (by simp;omega)]
theorem flatV (l:List Int):(cellsI l).flatten=l.map fun x=>Value.int .i64 x:=by
 unfold cellsI
 induction l with
 | nil=>rfl
 | cons a r ih=>simp [ih]
theorem stable_own (swo:SWO (ltOf cf)) (ent:∀ args w,(callFunc g args).run Tryz.prog w = .ok (.enter g args) w) {l:List β} {w:World} {base:Nat} {v:Value} {A:Option Addr} {n cap:Nat} (hv:v = .slice A n cap) (hn:n=l.length) (h:OwnK w base 3 1 v (cellsI (l.map val))) (hb:base<=w.heap.size) (hl:n<1152921504606846976)
  (call:∀ b,v.ownBlock=some b -> ∀ W,w.grownBy W (some b) -> ∀ x y:β,Calls Tryz.prog g (#[.int .i64 (val x),.int .i64 (val y)] ++ cb) W fun e w'=>e = .returned (.int .i64 (cf x y))/\Gw W w') :
  Calls Tryz.prog 201 #[.slice A n cap,.func (.func g) #[] cb] w fun e w'=>e = .returned (.tuple #[]) /\ ∃ W:List Nat,W.Perm (List.range l.length)/\W.Pairwise (Fore fun i y=>ltOf cf (l.getD i default) (l.getD y default))/\OwnK w' base 3 1 v (cellsI ((W.map fun i=>l.getD i default).map val))/\Below base w w':=by
 subst hv
 have h':=h
 obtain ⟨hk,hs0,hr⟩:=h
 rcases hr with ⟨h1,h0⟩ | ⟨b,cap1,cur,h1,hbg,hg,hn1,hm1,hc1,ht1⟩
 ·rw [cellsI_length,List.length_map] at h0
  have hl0:l=[]:=List.length_eq_zero_iff.1 h0
  subst hl0
  injection h1 with e1 e2 e3
  subst e1 e2 e3
  refine (sortStable_none none 0 w).mono ?_
  rintro e w' ⟨he,rfl⟩
  exact ⟨he,[],by simp,List.Pairwise.nil,OwnK.nil _ _ _ _,Below.refl _ _⟩
 ·rw [cellsI_length,List.length_map] at h1 hn1 ht1
  rw [Nat.mul_one] at ht1
  injection h1 with e1 e2 e3
  subst e1 e3
  rw [flatV] at ht1
  have hblk:b<w.heap.size:=Bk.here hg
  have htag:(tagd l).size=n:=by rw [hn,tagd_size]
  have hH:Holds (encV val) w b 0 (tagd l):=by
   intro j hj
   have hj':j<l.length:=by rw [tagd_size] at hj;exact hj
   refine ⟨?_,Bk.free hg _⟩
   rw [Nat.zero_add,Bk.cellAt hg j,tagd_get hj',<- Array.getElem?_toList]
   have h9:(cur.toList.take l.length)[j]? = ((l.map val).map fun x=>Value.int .i64 x)[j]?:=by rw [ht1]
   rw [List.getElem?_take_of_lt hj'] at h9
   rw [h9]
   simp [encV,hj']
  have C:CmpOk (encV val) (cfTag cf) g cb b 0 (tagd l).size w:=⟨swoCf swo,ent,fun m os dk hsz x y=>call b rfl _ (grown_sort val w b m dk os) x.1 y.1⟩
  have R:Row1 (encV val) w b 0 (tagd l):=⟨oneV val,hH,hblk⟩
  have hc:=sortStable_any (ltTag (ltOf cf)) (swoTag swo) b 0 cap n (tagd l) w C R htag.symm hl (fun i j hij hj=>tagd_say hij (by omega))
  refine Calls.mono hc ?_
  rintro e w' ⟨he,D,hp,hs,hS⟩
  rw [hn] at hp hs
  obtain ⟨W,w1,w2,w3⟩:=stable_places hp hs
  have hD:D.size=l.length:=by rw [<- tagd_size l];exact hp.1
  obtain ⟨m,os,rfl⟩:=hS
  refine ⟨he,W,w1,w2,?_,?_⟩
  ·rw [<- w3]
   have hdl:(List.map val (List.map (fun x=>x.1) D.toList)).length=l.length:=by simp [hD]
   refine ⟨cellsI_k _,by rw [flatV,cellsI_length];simp,.inr ⟨b,cap,_,by rw [cellsI_length,hdl,<- e2,hn],hbg,heap_sortV D hg,by rw [cellsI_length,hdl];exact hn1,hm1,by simp [putCells,hc1],?_⟩⟩
   rw [cellsI_length,hdl,Nat.mul_one,<- hD,take_putV cur D (by rw [hD,hc1,Nat.mul_one];exact hn1),flatV,List.map_map,List.map_map]
   rfl
  ·exact (Below.refl base w).grown (grown_sort val w b m D os) hb (fun k hk=>by injection hk with hk;subst hk;exact hbg)
end
end StI
section
open Go.RowKit
theorem gangOf_take {l:List Jb} {s:ByteArray} {S:List Nat} {a:Nat} (h:a<S.length):gangOf l s (S.take (a+1))=gangOf l s (S.take a) ++ if sE (jat l S[a]).ga s then [S[a]] else []:=by
 unfold gangOf;rw [List.take_succ_eq_append_getElem h,List.filter_append]
 cases he:sE (jat l S[a]).ga s
 ·rw [List.filter_cons_of_neg (p:=fun y=>sE (jat l y).ga s) (by show ¬ sE (jat l S[a]).ga s=true;rw [he];exact Bool.false_ne_true)];simp
 ·rw [List.filter_cons_of_pos (p:=fun y=>sE (jat l y).ga s) he];simp
theorem gangOf_len (l:List Jb) (s:ByteArray) (S:List Nat):(gangOf l s S).length<=S.length:=List.length_filter_le _ _
theorem rdOf {w:World} {b:Nat} {B:Option Addr} {q c:Nat} {l:List Int} {e:TypeId} (h:OwnK w b e 1 (.slice B q c) (cellsI l)):RdI w B l:=by
 obtain ⟨A,c',hv,hr,_⟩:=h.rdi
 injection hv with h1
 subst h1;exact hr
end
end Go.Proofs.YtccccbofcnmdiaaGreat
