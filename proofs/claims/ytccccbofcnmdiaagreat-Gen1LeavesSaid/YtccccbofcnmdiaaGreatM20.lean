/- Lemmas that the law stands on. No condition. -/
import Derived.Test.YtccccbofcnmdiaaGreatM19
namespace Go.Proofs.YtccccbofcnmdiaaGreat
set_option linter.unusedSimpArgs false
set_option linter.unusedVariables false
set_option maxRecDepth 100000
set_option maxHeartbeats 51200000
section
open Go.RowKit
def ofQ (q:ByteArray) (l:List Jb):List (Int × Int × Int):=(l.filter fun j=>sE j.qu q).map Jb.need
theorem ofQ_yes {q:ByteArray} {l:List Jb} {k:Nat} (h:k<l.length) (he:sE l[k].qu q=true):ofQ q (l.drop k)=l[k].need :: ofQ q (l.drop (k+1)):=by
 unfold ofQ;rw [List.drop_eq_getElem_cons h,List.filter_cons_of_pos (p:=fun j:Jb=>sE j.qu q) he];rfl
theorem ofQ_no {q:ByteArray} {l:List Jb} {k:Nat} (h:k<l.length) (he:sE l[k].qu q=false):ofQ q (l.drop k)=ofQ q (l.drop (k+1)):=by
 unfold ofQ;rw [List.drop_eq_getElem_cons h,List.filter_cons_of_neg (p:=fun j:Jb=>sE j.qu q) (by simp [he])]

theorem used_any (A:Option Addr) (n cap:Nat) (l:List Jb) (q:ByteArray) (w:World) (hn:Hid (n=l.length)) (hl:n<=9223372036854775807) (hA:Hid (RdJ w A l)) (x y z v:Int) (hs:Hid (sm 0 0 0 (ofQ q l)=(x,y,z,v))) :
  Calls Tryz.prog 26 #[.slice A n cap,.string q] w fun e w'=>e = .returned (.tuple #[.agg #[.int .i64 x,.int .i64 y,.int .i64 z],.int .i64 v])/\Below w.heap.size w w':=by
 go_enter Tryz.func26,Tryz.ntmps26
 have B4:Bk (w.alloc (.cells #[.int .i64 0,.int .i64 0,.int .i64 0] 40)) w.heap.size 40 #[.int .i64 0,.int .i64 0,.int .i64 0]:=Bk.fresh _ _ _
 go_wp2_with ((with_reducible refine store_bk rfl 40 (.tmp 6) (.tmp 11) rfl (w.heap.size+1) 0 #[.int .i64 0,.int .i64 0,.int .i64 0] rfl rfl 40 _ #[.int .i64 0,.int .i64 0,.int .i64 0] (Bk.freshAt _ _ _ (by simp)) (by kernel_rfl) (by simp) (by kernel_rfl) rfl ?_);intro w0 hB0 hg0 hs0)
 have hb0:Below w.heap.size w w0:=grown_below (((Below.refl _ _).alloc (Nat.le_refl _) _).alloc (by simp) _) hg0 (by omega)
 have hB4:Bk w0 w.heap.size 40 #[.int .i64 0,.int .i64 0,.int .i64 0]:=(B4.later ((Below.refl _ _).alloc (Nat.le_refl _) _)).stays hg0 (by simp)
 clear B4 hg0 hs0
 have HB4:=Lib.hid hB4;clear hB4
 have HB0:=Lib.hid hB0;clear hB0
 go_loopw [14] (fun i wr=>∃ (k:Nat) (p r s:Int),k<=n/\i = .int .i64 k/\Hid (sm p r s (ofQ q (l.drop k))=(x,y,z,v))/\Hid (Bk wr w.heap.size 40 #[.int .i64 0,.int .i64 0,.int .i64 0]) /\
   Hid (Bk wr (w.heap.size+1) 40 #[.int .i64 p,.int .i64 r,.int .i64 s])/\Below w.heap.size w wr) (fun i wr=>n - (intOf i).toNat)
 case atStart=>exact ⟨0,0,0,0,Nat.zero_le _,rfl,(show sm 0 0 0 (ofQ q (l.drop 0))=_ by simpa using hs.out),HB4,HB0,hb0⟩
 case round=>
  clear HB4 HB0 hb0
  obtain ⟨k,p,r,s,hk,rfl,HS,HB4,HB6,hb⟩:=hrel
  have lt1:w.heap.size+1<wr.heap.size:=HB6.out.here
  by_cases hlt:k<n
  ·have hlk:k<l.length:=by have:=hn.out;omega
   obtain ⟨g,o,rfl,hg,hj⟩:=(hA.out.later hb).at hlk
   obtain ⟨j,hjk⟩:∃ j,j=l[k]:=⟨_,rfl⟩
   rw [<- hjk] at hj
   have HJ:=Lib.hid hj;clear hj
   cases he:sE j.qu q
   ·have hfin:=HS.out
    rw [ofQ_no hlk (hjk ▸ he)] at hfin
    have HF:=Lib.hid hfin;clear hfin
    have he':(j.qu.toList == q.toList)=false:=he
    have HJK:=Lib.hid hjk;clear hjk he
    go_wp2_with (first | (with_reducible refine load_rg rfl 66 _ rfl g (o+k * 13) rfl j.arr _ HJ.out.rg Tryz.underlying66 rfl (by kernel_rfl) ?_) | ((with_reducible refine store_bk rfl 66 (.tmp 8) (.tmp 17) rfl wr.heap.size 0 j.arr rfl rfl 66 _ j.arr (Bk.fresh _ _ _) (by kernel_rfl) (by simp) (by kernel_rfl) rfl ?_);intro w1 hB1 hg1 hs1;have hn1:=hB1.cellAt 1;simp at hn1))
    go_round
    case rel=>exact ⟨k+1,p,r,s,by omega,by go_num,HF,(HB4.out.later ((Below.refl _ _).alloc (Nat.le_refl _) _)).stays hg1 (by simp;omega),(HB6.out.later ((Below.refl _ _).alloc (Nat.le_refl _) _)).stays hg1 (by simp;omega),grown_below (hb.alloc hb.size _) hg1 hb.size⟩
    case measure=>simp [intOf];omega
   ·obtain ⟨hd,hdef⟩:∃ t,t=ofQ q (l.drop (k+1)):=⟨_,rfl⟩
    have hfin:=HS.out
    rw [ofQ_yes hlk (hjk ▸ he),<- hjk,<- hdef] at hfin
    have HD:=Lib.hid hdef;clear hdef
    have he':(j.qu.toList == q.toList)=true:=he
    have HJK:=Lib.hid hjk;clear hjk he
    cases h:adB p r s j.a j.b j.c
    ·have hv:=adE_no h
     rw [sm_no h] at hfin
     simp only [Prod.mk.injEq] at hfin
     obtain ⟨rfl,rfl,rfl,hfv⟩:=hfin
     try simp only at hv
     rw [hfv] at hv
     have HH:=Lib.hid h;clear h
     have HV:=Lib.hid hfv;clear hfv
     rcases hv with rfl | rfl
     all_goals
      go_wp2_with (first | (with_reducible refine load_rg rfl 66 _ rfl g (o+k * 13) rfl j.arr _ HJ.out.rg Tryz.underlying66 rfl (by kernel_rfl) ?_) | ((with_reducible refine store_bk rfl 66 (.tmp 8) (.tmp 17) rfl wr.heap.size 0 j.arr rfl rfl 66 _ j.arr (Bk.fresh _ _ _) (by kernel_rfl) (by simp) (by kernel_rfl) rfl ?_);intro w1 hB1 hg1 hs1;have hn1:=hB1.cellAt 1;simp at hn1;have hb1:Below w.heap.size w w1:=grown_below (hb.alloc hb.size _) hg1 hb.size;have hB6:=(HB6.out.later ((Below.refl _ _).alloc (Nat.le_refl _) _)).stays hg1 (by simp;omega);have hB4:=(HB4.out.later ((Below.refl _ _).alloc (Nat.le_refl _) _)).stays hg1 (by simp;omega);have HB6':=Lib.hid hB6;have HB4':=Lib.hid hB4;have HBJ:=Lib.hid hB1;clear hB6 hB4 hB1 HB6 HB4) | (with_reducible refine load_bk rfl 40 _ rfl (w.heap.size+1) 0 rfl 40 #[.int .i64 p,.int .i64 r,.int .i64 s] #[.int .i64 p,.int .i64 r,.int .i64 s] _ HB6'.out (Part.whole _) Tryz.underlying40 rfl (by kernel_rfl) ?_) | (with_reducible refine load_bk rfl 40 _ rfl wr.heap.size 3 rfl 66 j.arr #[.int .i64 j.a,.int .i64 j.b,.int .i64 j.c] _ HBJ.out (Part.of rfl) Tryz.underlying40 rfl (by kernel_rfl) ?_))
      refine (add_false HH.out HV.out _).mono ?_;rintro r' w2 ⟨rfl,hb2⟩
      go_wp2_with (first | ((with_reducible refine store_bk rfl 40 (.tmp 9) (.tmp 29) rfl w2.heap.size 0 #[.int .i64 0,.int .i64 0,.int .i64 0] rfl rfl 40 _ #[.int .i64 0,.int .i64 0,.int .i64 0] (Bk.fresh _ _ _) (by kernel_rfl) (by simp) (by kernel_rfl) rfl ?_);intro w3 hB9 hg3 hs3;have HB9:=Lib.hid hB9;clear hB9;have hb3:Below w.heap.size w w3:=grown_below ((hb1.trans (hb2.mono hb1.size)).alloc (Nat.le_trans hb1.size hb2.size) _) hg3 (Nat.le_trans hb1.size hb2.size);have hB6:=((HB6'.out.later hb2).later ((Below.refl _ _).alloc (Nat.le_refl _) _)).stays hg3 (by have:=hb2.size;have:=hs1;simp at this ⊢;omega);have hB4:=((HB4'.out.later hb2).later ((Below.refl _ _).alloc (Nat.le_refl _) _)).stays hg3 (by have:=hb2.size;have:=hs1;simp at this ⊢;omega);have HB6:=Lib.hid hB6;have HB4:=Lib.hid hB4;clear hB6 hB4) | ((with_reducible refine store_bk rfl 40 (.tmp 4) (.tmp 33) rfl w.heap.size 0 #[.int .i64 0,.int .i64 0,.int .i64 0] rfl rfl 40 _ #[.int .i64 0,.int .i64 0,.int .i64 0] HB4.out (by kernel_rfl) (by simp) (by kernel_rfl) rfl ?_);intro w4 hB5 hg4 hs4))
      exact bodyPost_ret (v:=.tuple #[.agg #[.int .i64 0,.int .i64 0,.int .i64 0],.int .i64 _]) (results_bk2 Tryz.results26 _ _ w.heap.size 40 _ _ _ rfl rfl hB5 Tryz.underlying40 rfl (by kernel_rfl)) rfl ⟨rfl,grown_below hb3 hg4 (Nat.le_refl _)⟩
    ·rw [sm_ok h] at hfin
     have HF:=Lib.hid hfin;clear hfin
     have HH:=Lib.hid h;clear h
     go_wp2_with (first | (with_reducible refine load_rg rfl 66 _ rfl g (o+k * 13) rfl j.arr _ HJ.out.rg Tryz.underlying66 rfl (by kernel_rfl) ?_) | ((with_reducible refine store_bk rfl 66 (.tmp 8) (.tmp 17) rfl wr.heap.size 0 j.arr rfl rfl 66 _ j.arr (Bk.fresh _ _ _) (by kernel_rfl) (by simp) (by kernel_rfl) rfl ?_);intro w1 hB1 hg1 hs1;have hn1:=hB1.cellAt 1;simp at hn1;have hb1:Below w.heap.size w w1:=grown_below (hb.alloc hb.size _) hg1 hb.size;have hB6:=(HB6.out.later ((Below.refl _ _).alloc (Nat.le_refl _) _)).stays hg1 (by simp;omega);have hB4:=(HB4.out.later ((Below.refl _ _).alloc (Nat.le_refl _) _)).stays hg1 (by simp;omega);have HB6':=Lib.hid hB6;have HB4':=Lib.hid hB4;have HBJ:=Lib.hid hB1;clear hB6 hB4 hB1 HB6 HB4) | (with_reducible refine load_bk rfl 40 _ rfl (w.heap.size+1) 0 rfl 40 #[.int .i64 p,.int .i64 r,.int .i64 s] #[.int .i64 p,.int .i64 r,.int .i64 s] _ HB6'.out (Part.whole _) Tryz.underlying40 rfl (by kernel_rfl) ?_) | (with_reducible refine load_bk rfl 40 _ rfl wr.heap.size 3 rfl 66 j.arr #[.int .i64 j.a,.int .i64 j.b,.int .i64 j.c] _ HBJ.out (Part.of rfl) Tryz.underlying40 rfl (by kernel_rfl) ?_))
     refine (add_true HH.out _).mono ?_;rintro r' w2 ⟨rfl,hb2⟩
     go_wp2_with (first | ((with_reducible refine store_bk rfl 40 (.tmp 9) (.tmp 29) rfl w2.heap.size 0 #[.int .i64 (p+j.a),.int .i64 (r+j.b),.int .i64 (s+j.c)] rfl rfl 40 _ #[.int .i64 (p+j.a),.int .i64 (r+j.b),.int .i64 (s+j.c)] (Bk.fresh _ _ _) (by kernel_rfl) (by simp) (by kernel_rfl) rfl ?_);intro w3 hB9 hg3 hs3;have HB9:=Lib.hid hB9;clear hB9;have hb3:Below w.heap.size w w3:=grown_below ((hb1.trans (hb2.mono hb1.size)).alloc (Nat.le_trans hb1.size hb2.size) _) hg3 (Nat.le_trans hb1.size hb2.size);have hB6:=((HB6'.out.later hb2).later ((Below.refl _ _).alloc (Nat.le_refl _) _)).stays hg3 (by have:=hb2.size;have:=hs1;simp at this ⊢;omega);have hB4:=((HB4'.out.later hb2).later ((Below.refl _ _).alloc (Nat.le_refl _) _)).stays hg3 (by have:=hb2.size;have:=hs1;simp at this ⊢;omega);have HB6:=Lib.hid hB6;have HB4:=Lib.hid hB4;clear hB6 hB4) | (with_reducible refine load_bk rfl 40 _ rfl w2.heap.size 0 rfl 40 #[.int .i64 (p+j.a),.int .i64 (r+j.b),.int .i64 (s+j.c)] #[.int .i64 (p+j.a),.int .i64 (r+j.b),.int .i64 (s+j.c)] _ HB9.out (Part.whole _) Tryz.underlying40 rfl (by kernel_rfl) ?_) | ((with_reducible refine store_bk rfl 40 (.tmp 6) (.tmp 35) rfl (w.heap.size+1) 0 #[.int .i64 (p+j.a),.int .i64 (r+j.b),.int .i64 (s+j.c)] rfl rfl 40 _ #[.int .i64 (p+j.a),.int .i64 (r+j.b),.int .i64 (s+j.c)] HB6.out (by kernel_rfl) (by simp) (by kernel_rfl) rfl ?_);intro w4 hB7 hg4 hs4))
     go_round
     case rel=>exact ⟨k+1,p+j.a,r+j.b,s+j.c,by omega,by go_num,(show sm _ _ _ (ofQ q (l.drop (k+1)))=_ by rw [<- HD.out];exact HF.out),HB4.out.stays hg4 (by simp),hB7,grown_below hb3 hg4 (by omega)⟩
     case measure=>simp [intOf];omega
  ·have hk':k=n:=by omega
   subst hk'
   have hfin:=HS.out
   rw [hn.out,List.drop_length] at hfin
   simp only [ofQ,List.filter_nil,List.map_nil,sm_nil,Prod.mk.injEq] at hfin
   obtain ⟨rfl,rfl,rfl,rfl⟩:=hfin
   go_wp2_with (first | (with_reducible refine load_bk rfl 40 _ rfl (w.heap.size+1) 0 rfl 40 #[.int .i64 p,.int .i64 r,.int .i64 s] #[.int .i64 p,.int .i64 r,.int .i64 s] _ HB6.out (Part.whole _) Tryz.underlying40 rfl (by kernel_rfl) ?_) | ((with_reducible refine store_bk rfl 40 (.tmp 4) (.tmp 37) rfl w.heap.size 0 #[.int .i64 p,.int .i64 r,.int .i64 s] rfl rfl 40 _ #[.int .i64 p,.int .i64 r,.int .i64 s] HB4.out (by kernel_rfl) (by simp) (by kernel_rfl) rfl ?_);intro w1 hB1 hg1 hs1))
   exact bodyPost_ret (v:=.tuple #[.agg #[.int .i64 p,.int .i64 r,.int .i64 s],.int .i64 0]) (results_bk2 Tryz.results26 _ _ w.heap.size 40 _ _ _ rfl rfl hB1 Tryz.underlying40 rfl (by kernel_rfl)) rfl ⟨rfl,grown_below hb hg1 (Nat.le_refl _)⟩
end
section
open Go.RowKit
theorem sm_is:∀ {l:List (Int × Int × Int)} {p q r x y z v:Int},rB p q r=true->sm p q r l=(x,y,z,v)->(v=0/\rB x y z=true) ∨ ((v=1 ∨ v=6)/\x=0/\y=0/\z=0)
 | [],p,q,r,x,y,z,v,h,hs=>by
  rw [sm_nil] at hs;simp only [Prod.mk.injEq] at hs
  obtain ⟨rfl,rfl,rfl,rfl⟩:=hs
  exact .inl ⟨rfl,h⟩
 | t :: l,p,q,r,x,y,z,v,h,hs=>by
  cases ha:adB p q r t.1 t.2.1 t.2.2
  ·rw [sm_no ha] at hs;simp only [Prod.mk.injEq] at hs
   obtain ⟨rfl,rfl,rfl,hv⟩:=hs
   exact .inr ⟨hv ▸ adE_no ha,rfl,rfl,rfl⟩
  ·rw [sm_ok ha] at hs
   have h':rB (p+t.1) (q+t.2.1) (r+t.2.2)=true:=by simp only [adB,Bool.and_eq_true] at ha;exact ha.2
   exact sm_is h' hs
theorem adE_over {a b c d e f:Int} (h1:rB a b c=true) (h2:rB d e f=true) (h:adB a b c d e f=false):adE a b c d e f=6:=by
 have h3:rB (a+d) (b+e) (c+f)=false:=by unfold adB at h;rw [h1,h2] at h;simpa using h
 unfold adE;rw [h1,h2,h3];rfl
abbrev V3:=Int × Int × Int
def s1 (l:List V3):Int:=(l.map fun t=>t.1).sum
def s2 (l:List V3):Int:=(l.map fun t=>t.2.1).sum
def s3 (l:List V3):Int:=(l.map fun t=>t.2.2).sum
theorem s1_cons (t:V3) (l:List V3):s1 (t :: l)=t.1+s1 l:=by simp [s1]
theorem s2_cons (t:V3) (l:List V3):s2 (t :: l)=t.2.1+s2 l:=by simp [s2]
theorem s3_cons (t:V3) (l:List V3):s3 (t :: l)=t.2.2+s3 l:=by simp [s3]
theorem s1_append (l m:List V3):s1 (l ++ m)=s1 l+s1 m:=by induction l with
 | nil=>simp [s1]
 | cons t l ih=>rw [List.cons_append,s1_cons,s1_cons,ih];omega
theorem s2_append (l m:List V3):s2 (l ++ m)=s2 l+s2 m:=by induction l with
 | nil=>simp [s2]
 | cons t l ih=>rw [List.cons_append,s2_cons,s2_cons,ih];omega
theorem s3_append (l m:List V3):s3 (l ++ m)=s3 l+s3 m:=by induction l with
 | nil=>simp [s3]
 | cons t l ih=>rw [List.cons_append,s3_cons,s3_cons,ih];omega
def allR (l:List V3):Prop:=∀ t ∈ l,rB t.1 t.2.1 t.2.2=true
theorem allR_ge:∀ {l:List V3},allR l->0<=s1 l/\0<=s2 l/\0<=s3 l
 | [],_=>by simp [s1,s2,s3]
 | t :: l,h=>by
  have:=allR_ge (l:=l) fun u hu=>h u (by simp [hu])
  have:=rB_bd (h t (by simp))
  rw [s1_cons,s2_cons,s3_cons];omega
theorem sm_zero:∀ {l:List V3} {p q r x y z:Int},sm p q r l=(x,y,z,0)->allR l/\x=p+s1 l/\y=q+s2 l/\z=r+s3 l
 | [],p,q,r,x,y,z,h=>by
  rw [sm_nil] at h;simp only [Prod.mk.injEq] at h
  exact ⟨fun t ht=>by simp at ht,by simp [s1];omega,by simp [s2];omega,by simp [s3];omega⟩
 | t :: l,p,q,r,x,y,z,h=>by
  cases ha:adB p q r t.1 t.2.1 t.2.2
  ·rw [sm_no ha] at h;simp only [Prod.mk.injEq] at h
   have:=adE_no ha
   omega
  ·rw [sm_ok ha] at h
   obtain ⟨h1,h2,h3,h4⟩:=sm_zero h
   have hr:rB t.1 t.2.1 t.2.2=true:=by simp only [adB,Bool.and_eq_true] at ha;exact ha.1.2
   refine ⟨fun u hu=>(List.mem_cons.1 hu).elim (fun e=>e ▸ hr) (h1 u),?_,?_,?_⟩
   ·rw [s1_cons];omega
   ·rw [s2_cons];omega
   ·rw [s3_cons];omega
theorem sm_mk:∀ {l:List V3} {p q r:Int},rB p q r=true->allR l->rB (p+s1 l) (q+s2 l) (r+s3 l)=true->sm p q r l=(p+s1 l,q+s2 l,r+s3 l,0)
 | [],p,q,r,_,_,_=>by rw [sm_nil];simp [s1,s2,s3]
 | t :: l,p,q,r,h0,h1,h2=>by
  have hl:allR l:=fun u hu=>h1 u (by simp [hu])
  have ht:=h1 t (by simp)
  have g:=allR_ge hl
  have k0:=rB_bd h0
  have k1:=rB_bd ht
  have k2:=rB_bd h2
  rw [s1_cons,s2_cons,s3_cons] at k2 h2 ⊢
  have ha:rB (p+t.1) (q+t.2.1) (r+t.2.2)=true:=rB_mk (by omega)
  have hb:adB p q r t.1 t.2.1 t.2.2=true:=by unfold adB;rw [h0,ht,ha];rfl
  rw [sm_ok hb,sm_mk ha hl (by rw [Int.add_assoc,Int.add_assoc,Int.add_assoc];exact h2)]
  rw [Int.add_assoc,Int.add_assoc,Int.add_assoc]
end
end Go.Proofs.YtccccbofcnmdiaaGreat
