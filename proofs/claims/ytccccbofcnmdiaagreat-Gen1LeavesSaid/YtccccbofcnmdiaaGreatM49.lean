/- Lemmas that the law stands on. No condition. -/
import Derived.Test.YtccccbofcnmdiaaGreatM48
namespace Go.Proofs.YtccccbofcnmdiaaGreat
set_option linter.unusedSimpArgs false
set_option linter.unusedVariables false
set_option maxRecDepth 100000
set_option maxHeartbeats 51200000
section
open Go.RowKit
theorem bare_fields {S T:Sg} (h:S.bare=T.bare):S.ck=T.ck/\S.nx=T.nx/\bM S.M=bM T.M/\S.Q=T.Q/\bL S.J=bL T.J:=by
 unfold Sg.bare at h
 injection h with h1 h2 h3 h4 h5
 exact ⟨h1,h2,h3,h4,h5⟩
theorem In2.alike {m:Int} {S T:Sg} (h:In2 m T) (e:S.bare=T.bare):In2 m S:=by
 obtain ⟨e1,e2,e3,e4,e5⟩:=bare_fields e
 have lM:S.M.length=T.M.length:=by have:=congrArg List.length e3;rw [List.length_map,List.length_map] at this;exact this
 have lJ:S.J.length=T.J.length:=by have:=congrArg List.length e5;rw [List.length_map,List.length_map] at this;exact this
 refine ⟨by rw [lM];exact h.M,by rw [e4];exact h.Q,by rw [lJ];exact h.J,fun x hx=>?_,fun x hx=>?_,by rw [e2];exact h.nx,by rw [e1];exact h.ck,by rw [<- keyM_bare,e3,keyM_bare];exact h.aM,by rw [e4];exact h.aQ,fun x hx=>?_⟩
 ·have hm:bX x ∈ bM T.M:=by rw [<- e3];exact List.mem_map_of_mem hx
  obtain ⟨y,hy,e⟩:=List.mem_map.1 hm
  have e2:y.2=x.2:=by have h:=congrArg (fun x:Ml=>x.2) e;exact h
  rw [<- e2];exact h.lM y hy
 ·have hm:bY x ∈ bL T.J:=by rw [<- e5];exact List.mem_map_of_mem hx
  obtain ⟨y,hy,e⟩:=List.mem_map.1 hm
  have e2:y.2=x.2:=by have h:=congrArg (fun x:Jl=>x.2) e;exact h
  rw [<- e2];exact h.lJ y hy
 ·have hm:bY x ∈ bL T.J:=by rw [<- e5];exact List.mem_map_of_mem hx
  obtain ⟨y,hy,e⟩:=List.mem_map.1 hm
  have e2:y.1.bo=x.1.bo:=by have h:=congrArg (fun x:Jl=>x.1.bo) e;exact h
  rw [<- e2];exact h.bo y hy
def Gx (w:World) (b g:Nat) (F:Nat->Prop) (S:Sg):Prop:=∃ lst vM vQ vJ S',Gs w b g lst vM vQ vJ S' /\ S'.bare=S.bare /\ ∀ k,blkG g vM vQ vJ S' k->F k
section
variable {w w':World} {b b' g:Nat} {F F':Nat->Prop} {S:Sg}
theorem Gx.grp {p:Nat->Prop} (h:Gx w b g F S) (hg:GrP p w w') (hp:∀ k,b<=k->F k -> ¬ p k):Gx w' b g F S:=by
 obtain ⟨lst,vM,vQ,vJ,S',h1,h2,h3⟩:=h
 exact ⟨lst,vM,vQ,vJ,S',h1.grp hg fun k hk=>hp k (h1.blk hk).1 (h3 k hk),h2,h3⟩
theorem Gx.below (h:Gx w b g F S) (hb:Below w.heap.size w w'):Gx w' b g F S:=h.grp (GrP.ofBelow (p:=fun _=>False) hb) fun _ _ _ e=>e
theorem Gx.wide (h:Gx w b g F S) (hs:∀ k,k<w.heap.size->F k->F' k):Gx w b g F' S:=by
 obtain ⟨lst,vM,vQ,vJ,S',h1,h2,h3⟩:=h
 exact ⟨lst,vM,vQ,vJ,S',h1,h2,fun k hk=>hs k (h1.blk hk).2 (h3 k hk)⟩
theorem Gx.base (h:Gx w b g F S) (hb:b' <= b):Gx w b' g F S:=by
 obtain ⟨lst,vM,vQ,vJ,S',h1,h2,h3⟩:=h
 exact ⟨lst,vM,vQ,vJ,S',h1.base hb,h2,h3⟩
end
theorem gx_new (w:World):Calls Tryz.prog 14 #[] w fun e w'=>e = .returned (.pointer (some ⟨w.heap.size,0,none⟩))/\Gx w' w.heap.size w.heap.size (fun k=>w.heap.size<=k) Sg.new/\Below w.heap.size w w':=by
 refine (new_any w).mono ?_
 rintro e w' ⟨rfl,h,hb⟩
 exact ⟨rfl,⟨_,_,_,_,_,h,rfl,fun k hk=>(h.blk hk).1⟩,hb⟩
theorem gx_do (bs:Bst) (ch:Chs15) (un:Uns) (hB:BestK bs) (hC:ChoK ch) (hUn:UniK un) (h3:Bare3 bs ch un) (b g:Nat) (F:Nat->Prop) (m:Int) (S:Sg) (x:Oz) (w:World) (hG:Gx w b g F S) (hI:In2 m S) (hm:m<=1152921504606846976) (hx:OzOk w x) (hl1:x.v.l1.length<=1000) (hl3:x.v.l3.length<=1000) :
  Calls Tryz.prog 18 #[.pointer (some ⟨g,0,none⟩),.agg x.arr] w fun e w'=>
   (∃ A n c,e = .returned (.agg #[.int .i64 (stepG bs ch un S x.v).2.1,.slice A n c])/\RetL w.heap.size w' A n c (stepG bs ch un S x.v).2.2)/\Gx w' b g (fun k=>F k ∨ w.heap.size<=k) (stepG bs ch un S x.v).1/\GrP F w w':=by
 obtain ⟨lst,vM,vQ,vJ,S',h1,h2,hF⟩:=hG
 obtain ⟨e1,e2⟩:=stepG_alike (S:=S') (T:=S) h3 h2 x.v
 refine (doG_any bs ch un hB hC hUn b g lst vM vQ vJ S' x w h1 ((hI.alike h2).inv hm) hx hl1 hl3).mono ?_
 rintro e w' ⟨⟨A,n,c,rfl,hR⟩,hW⟩
 rw [e1] at hR ⊢
 obtain ⟨lst',vM',vQ',vJ',S'',g1,g2,g3,g4⟩:=hW
 exact ⟨⟨A,n,c,rfl,hR⟩,⟨lst',vM',vQ',vJ',S'',g1,g2.trans e2,fun k hk=>(g4 k hk).imp (hF k) id⟩,g3.wide fun k _ hk=>hF k hk⟩
theorem gx_state (b g:Nat) (F:Nat->Prop) (m:Int) (S:Sg) (w:World) (hG:Gx w b g F S) (hI:In2 m S) :
  Calls Tryz.prog 20 #[.pointer (some ⟨g,0,none⟩)] w fun e w'=>(∃ vM vQ vJ S',e = .returned (.agg #[.int .i64 S.ck,.int .i64 S.nx,vM,vQ,vJ])/\OwnS w' w.heap.size vM vQ vJ S' /\ S'.bare=S.bare)/\Gx w' b g F S/\Below w.heap.size w w':=by
 obtain ⟨lst,vM,vQ,vJ,S',h1,h2,hF⟩:=hG
 obtain ⟨e1,e2,_⟩:=bare_fields h2
 have hi:=hI.alike h2
 have hsm:Sm S':=⟨Nat.le_trans hi.M (by decide),Nat.le_trans hi.Q (by decide),Nat.le_trans hi.J (by decide),hi.lM,hi.lJ,by have:=hi.nx;omega,by have:=hi.ck;omega⟩
 refine (state_any b g lst vM vQ vJ S' w h1 hsm).mono ?_
 rintro e w' ⟨⟨uM,uQ,uJ,T,rfl,hO,hb⟩,hbb⟩
 exact ⟨⟨uM,uQ,uJ,T,by rw [e1,e2],hO,hb.trans h2⟩,⟨lst,vM,vQ,vJ,S',h1.below hbb,h2,hF⟩,hbb⟩
end
section
open Go.RowKit

theorem within_any (n a b:Int) (w:World):Calls Tryz.prog 48 #[.int .i64 n,.int .i64 a,.int .i64 b] w fun e w'=>e = .returned (.bool (decide (a<=n) && decide (n<=b)))/\w=w':=by
 cases h1:decide (a<=n)
 ·go_enter Tryz.func48,Tryz.ntmps48
  go_wp2
  go_ret
  exact ⟨rfl,rfl⟩
 ·go_enter Tryz.func48,Tryz.ntmps48
  go_wp2
  go_ret
  exact ⟨rfl,rfl⟩

theorem ascM_nil (w:World):Calls Tryz.prog 93 #[.slice none 0 0,.func (.func 94) #[] #[]] w fun e w'=>e = .returned (.bool true)/\Below w.heap.size w w':=by
 go_enter Tryz.func93,Tryz.ntmps93
 go_wp2
 refine wp_loop_rounds 1 ?_
 rw [rounds_succ]
 go_wp2
 go_ret
 exact ⟨rfl,(by (repeat' (first | (with_reducible exact Below.refl _ _) | (with_reducible refine bdrewN ?_ _) | (with_reducible refine Below.drew ?_) | (with_reducible refine Below.setCell ?_ ?_ _) | (with_reducible refine Below.alloc ?_ ?_ _) | (with_reducible exact Nat.le_refl _) | (with_reducible assumption) | omega | (simp only [World.size_alloc,World.size_setCell,World.size_drew,sz_drewN];omega))))⟩

theorem ascQ_nil (w:World):Calls Tryz.prog 95 #[.slice none 0 0,.func (.func 96) #[] #[]] w fun e w'=>e = .returned (.bool true)/\Below w.heap.size w w':=by
 go_enter Tryz.func95,Tryz.ntmps95
 go_wp2
 refine wp_loop_rounds 1 ?_
 rw [rounds_succ]
 go_wp2
 go_ret
 exact ⟨rfl,(by (repeat' (first | (with_reducible exact Below.refl _ _) | (with_reducible refine bdrewN ?_ _) | (with_reducible refine Below.drew ?_) | (with_reducible refine Below.setCell ?_ ?_ _) | (with_reducible refine Below.alloc ?_ ?_ _) | (with_reducible exact Nat.le_refl _) | (with_reducible assumption) | omega | (simp only [World.size_alloc,World.size_setCell,World.size_drew,sz_drewN];omega))))⟩

theorem ascJ_nil (w:World):Calls Tryz.prog 97 #[.slice none 0 0,.func (.func 98) #[] #[]] w fun e w'=>e = .returned (.bool true)/\Below w.heap.size w w':=by
 go_enter Tryz.func97,Tryz.ntmps97
 go_wp2
 refine wp_loop_rounds 1 ?_
 rw [rounds_succ]
 go_wp2
 go_ret
 exact ⟨rfl,(by (repeat' (first | (with_reducible exact Below.refl _ _) | (with_reducible refine bdrewN ?_ _) | (with_reducible refine Below.drew ?_) | (with_reducible refine Below.setCell ?_ ?_ _) | (with_reducible refine Below.alloc ?_ ?_ _) | (with_reducible exact Nat.le_refl _) | (with_reducible assumption) | omega | (simp only [World.size_alloc,World.size_setCell,World.size_drew,sz_drewN];omega))))⟩

theorem areM_nil (w:World):Calls Tryz.prog 49 #[.slice none 0 0] w fun e w'=>e = .returned (.bool true)/\Below w.heap.size w w':=by
 have K1:=Lib.hid (fun W=>ascM_nil W)
 go_enter Tryz.func49,Tryz.ntmps49
 go_wp2_with fail
 refine (K1.out _).mono ?_;rintro e w1 ⟨rfl,hb1⟩
 go_wp2_with fail
 refine wp_loop_rounds 1 ?_
 rw [rounds_succ]
 go_wp2
 go_ret
 exact ⟨rfl,(by (repeat' (first | (with_reducible exact Below.refl _ _) | (with_reducible refine bdrewN ?_ _) | (with_reducible refine Below.drew ?_) | (with_reducible refine Below.setCell ?_ ?_ _) | (with_reducible refine Below.alloc ?_ ?_ _) | (with_reducible refine Below.trans ?_ (Below.mono hb1 ?_)) | (with_reducible exact Nat.le_refl _) | (with_reducible assumption) | omega | (simp only [World.size_alloc,World.size_setCell,World.size_drew,sz_drewN];omega))))⟩

theorem areQ_nil (w:World):Calls Tryz.prog 50 #[.slice none 0 0] w fun e w'=>e = .returned (.bool true)/\Below w.heap.size w w':=by
 have K1:=Lib.hid (fun W=>ascQ_nil W)
 go_enter Tryz.func50,Tryz.ntmps50
 go_wp2_with fail
 refine (K1.out _).mono ?_;rintro e w1 ⟨rfl,hb1⟩
 go_wp2_with fail
 refine wp_loop_rounds 1 ?_
 rw [rounds_succ]
 go_wp2
 go_ret
 exact ⟨rfl,(by (repeat' (first | (with_reducible exact Below.refl _ _) | (with_reducible refine bdrewN ?_ _) | (with_reducible refine Below.drew ?_) | (with_reducible refine Below.setCell ?_ ?_ _) | (with_reducible refine Below.alloc ?_ ?_ _) | (with_reducible refine Below.trans ?_ (Below.mono hb1 ?_)) | (with_reducible exact Nat.le_refl _) | (with_reducible assumption) | omega | (simp only [World.size_alloc,World.size_setCell,World.size_drew,sz_drewN];omega))))⟩

theorem areJ_nil (nx:Int) (w:World):Calls Tryz.prog 51 #[.slice none 0 0,.int .i64 nx] w fun e w'=>e = .returned (.bool true)/\Below w.heap.size w w':=by
 have K1:=Lib.hid (fun W=>ascJ_nil W)
 go_enter Tryz.func51,Tryz.ntmps51
 go_wp2_with fail
 refine (K1.out _).mono ?_;rintro e w1 ⟨rfl,hb1⟩
 go_wp2_with fail
 refine wp_loop_rounds 1 ?_
 rw [rounds_succ]
 go_wp2
 go_ret
 exact ⟨rfl,(by (repeat' (first | (with_reducible exact Below.refl _ _) | (with_reducible refine bdrewN ?_ _) | (with_reducible refine Below.drew ?_) | (with_reducible refine Below.setCell ?_ ?_ _) | (with_reducible refine Below.alloc ?_ ?_ _) | (with_reducible refine Below.trans ?_ (Below.mono hb1 ?_)) | (with_reducible exact Nat.le_refl _) | (with_reducible assumption) | omega | (simp only [World.size_alloc,World.size_setCell,World.size_drew,sz_drewN];omega))))⟩

theorem keepQ_nil (w:World):Calls Tryz.prog 52 #[.slice none 0 0,.slice none 0 0] w fun e w'=>e = .returned (.bool true)/\Below w.heap.size w w':=by
 go_enter Tryz.func52,Tryz.ntmps52
 go_wp2
 refine wp_loop_rounds 1 ?_
 rw [rounds_succ]
 go_wp2
 refine wp_loop_rounds 1 ?_
 rw [rounds_succ]
 go_wp2
 go_ret
 exact ⟨rfl,(by (repeat' (first | (with_reducible exact Below.refl _ _) | (with_reducible refine bdrewN ?_ _) | (with_reducible refine Below.drew ?_) | (with_reducible refine Below.setCell ?_ ?_ _) | (with_reducible refine Below.alloc ?_ ?_ _) | (with_reducible exact Nat.le_refl _) | (with_reducible assumption) | omega | (simp only [World.size_alloc,World.size_setCell,World.size_drew,sz_drewN];omega))))⟩

theorem atHome_nil (w:World):Calls Tryz.prog 53 #[.slice none 0 0,.slice none 0 0] w fun e w'=>e = .returned (.bool true)/\Below w.heap.size w w':=by
 go_enter Tryz.func53,Tryz.ntmps53
 go_wp2
 refine wp_loop_rounds 1 ?_
 rw [rounds_succ]
 go_wp2
 refine wp_loop_rounds 1 ?_
 rw [rounds_succ]
 go_wp2
 go_ret
 exact ⟨rfl,(by (repeat' (first | (with_reducible exact Below.refl _ _) | (with_reducible refine bdrewN ?_ _) | (with_reducible refine Below.drew ?_) | (with_reducible refine Below.setCell ?_ ?_ _) | (with_reducible refine Below.alloc ?_ ?_ _) | (with_reducible exact Nat.le_refl _) | (with_reducible assumption) | omega | (simp only [World.size_alloc,World.size_setCell,World.size_drew,sz_drewN];omega))))⟩


theorem right_blank (w:World):Calls Tryz.prog 23 #[.agg #[.int .i64 0,.int .i64 1,.slice none 0 0,.slice none 0 0,.slice none 0 0]] w fun e w'=>e = .returned (.bool true)/\Below w.heap.size w w':=by
 have k1:∀ W,Calls Tryz.prog 48 #[.int .i64 0,.int .i64 0,.int .i64 1073741824] W fun e w'=>e = .returned (.bool true)/\W=w':=fun W=>within_any 0 0 1073741824 W
 have k2:∀ W,Calls Tryz.prog 48 #[.int .i64 1,.int .i64 1,.int .i64 1073741824] W fun e w'=>e = .returned (.bool true)/\W=w':=fun W=>within_any 1 1 1073741824 W
 have K1:=Lib.hid k1;have K2:=Lib.hid k2;clear k1 k2
 have K3:=Lib.hid (fun W=>areM_nil W);have K4:=Lib.hid (fun W=>areQ_nil W);have K5:=Lib.hid (fun W=>areJ_nil 1 W);have K6:=Lib.hid (fun W=>keepQ_nil W);have K7:=Lib.hid (fun W=>atHome_nil W)
 obtain ⟨W0,hW0⟩:∃ W0,W0=w.alloc (.cells #[.int .i64 0,.int .i64 1,.slice none 0 0,.slice none 0 0,.slice none 0 0] 31):=⟨_,rfl⟩
 have HB0:Hid (Bk W0 w.heap.size 31 #[.int .i64 0,.int .i64 1,.slice none 0 0,.slice none 0 0,.slice none 0 0]):=by rw [hW0];exact Bk.fresh _ _ _
 have hb0:Below w.heap.size w W0:=by rw [hW0];exact (Below.refl _ _).alloc (Nat.le_refl _) _
 subst hW0
 go_enter Tryz.func23,Tryz.ntmps23
 go_wp2_with fail
 refine (K1.out _).mono ?_;rintro e w1 ⟨rfl,rfl⟩
 go_wp2_with fail
 refine (K2.out _).mono ?_;rintro e w1 ⟨rfl,rfl⟩
 go_wp2_with fail
 refine (K3.out _).mono ?_;rintro e w1 ⟨rfl,hb1⟩
 have HB1:=Lib.hid (HB0.out.later hb1)
 have c1:w1.cell? ⟨w.heap.size,3,none⟩=some (.slice none 0 0):=HB1.out.cellAt 3
 go_wp2_with fail
 refine (K4.out _).mono ?_;rintro e w2 ⟨rfl,hb2⟩
 have HB2:=Lib.hid (HB1.out.later hb2)
 clear c1
 have c1:w2.cell? ⟨w.heap.size,4,none⟩=some (.slice none 0 0):=HB2.out.cellAt 4
 have c2:w2.cell? ⟨w.heap.size,1,none⟩=some (.int .i64 1):=HB2.out.cellAt 1
 go_wp2_with fail
 refine (K5.out _).mono ?_;rintro e w3 ⟨rfl,hb3⟩
 have HB3:=Lib.hid (HB2.out.later hb3)
 clear c1 c2
 have c1:w3.cell? ⟨w.heap.size,4,none⟩=some (.slice none 0 0):=HB3.out.cellAt 4
 have c2:w3.cell? ⟨w.heap.size,3,none⟩=some (.slice none 0 0):=HB3.out.cellAt 3
 go_wp2_with fail
 refine (K6.out _).mono ?_;rintro e w4 ⟨rfl,hb4⟩
 have HB4:=Lib.hid (HB3.out.later hb4)
 clear c1 c2
 have c1:w4.cell? ⟨w.heap.size,4,none⟩=some (.slice none 0 0):=HB4.out.cellAt 4
 have c2:w4.cell? ⟨w.heap.size,2,none⟩=some (.slice none 0 0):=HB4.out.cellAt 2
 go_wp2_with fail
 refine (K7.out _).mono ?_;rintro e w5 ⟨rfl,hb5⟩
 have hc1:=hb0.trans (hb1.mono hb0.size)
 have hc2:=hc1.trans (hb2.mono hc1.size)
 have hc3:=hc2.trans (hb3.mono hc2.size)
 have hc4:=hc3.trans (hb4.mono hc3.size)
 have hc5:=hc4.trans (hb5.mono hc4.size)
 go_wp2_with fail
 go_ret
 exact ⟨rfl,hc5⟩
end
section
open Go.RowKit
theorem insQ_end {q:Qx} {Q:List Qx} (h:lbK q.1 (Q.map fun q=>q.1)=Q.length):insQ q Q=Q ++ [q]:=by
 unfold insQ
 rw [h,List.take_length,List.drop_length]
theorem InsQ.end {b:Nat} {vQ:Value} {Q:List Qx} {q:Qx} (h:lbK q.1 (Q.map fun q=>q.1)=Q.length) (hQ:Q.length<=1000):InsQ b vQ Q q:=by
 intro ad c w hO hr hb _ _ _
 rw [insQ_end h,h]
 refine (insertQ_end b vQ Q q ad c Q.length w (show _=_ from rfl) hQ hO hr hb).mono ?_
 rintro e w' ⟨⟨v',rfl,h1,h2⟩,h3⟩
 refine ⟨⟨v',rfl,h1,h2.imp id fun e k hk=>?_⟩,?_⟩
 ·rw [e] at hk;injection hk with hk;omega
 ·exact (GrP.of h3)
theorem bare_alone {S T:Sg} (h:S.bare=T.bare) (hM:T.M=[]) (hJ:T.J=[]):S=T:=by
 obtain ⟨a,b,M,Q,J⟩:=S
 obtain ⟨a',b',M',Q',J'⟩:=T
 simp only at hM hJ
 subst hM hJ
 unfold Sg.bare at h
 injection h with h1 h2 h3 h4 h5
 have e1:M=[]:=List.map_eq_nil_iff.1 h3
 have e2:J=[]:=List.map_eq_nil_iff.1 h5
 have h1':a=a':=h1
 have h2':b=b':=h2
 have h4':Q=Q':=h4
 rw [h1',h2',e1,h4',e2]
def ozA:Oz:=⟨{ Ov.zero with k:=3,qn:=⟨#[113]⟩ },none,0,0,none,0,0⟩
def sgA:Sg:={ Sg.new with Q:=[(⟨#[113]⟩,0,0,0)] }
theorem ozA_ok (w:World):OzOk w ozA:=⟨LbOk.nil w,LbOk.nil w,by decide,by decide,by decide,by decide,by decide,by decide,by decide⟩
theorem ozA_B:opB ozA.v=true:=by kernel_rfl
theorem addA:addQ Sg.new ozA.que=(sgA,0,[]):=by kernel_rfl
theorem addB:addQ sgA ozA.que=(sgA,8,[]):=by kernel_rfl
theorem smA:Sm sgA:=⟨by decide,by decide,by decide,fun x hx=>(by cases hx),fun x hx=>(by cases hx),by decide,by decide⟩
theorem ascA0:AscK (Sg.new.Q.map fun q=>q.1):=fun i j hi hj h=>by simp [Sg.new] at hj
theorem ascA1:AscK (sgA.Q.map fun q=>q.1):=fun i j hi hj h=>by
 have:j<1:=hj
 omega
theorem hasA1:hasK ozA.que.1 (sgA.Q.map fun q=>q.1)=true:=by kernel_rfl
theorem doA (b g:Nat) (vM vQ vJ:Value) (w:World) (hG:∃ lst,Gs w b g lst vM vQ vJ Sg.new):Calls Tryz.prog 18 #[.pointer (some ⟨g,0,none⟩),.agg ozA.arr] w fun e w'=>
   (∃ A n c,e = .returned (.agg #[.int .i64 0,.slice A n c]))/\Went w w' b g vM vQ vJ Sg.new sgA:=by
 have h:=do_any b g vM vQ vJ Sg.new ozA (sgA,0,[]) w hG (ozA_ok w) (fun _=>by rw [<- addA];exact perform_3 b g vM vQ vJ Sg.new ozA rfl sm_new ascA0 (fun _=>InsQ.end (by rfl) (by decide)))
 rw [ozA_B] at h
 refine h.mono ?_
 rintro e w' ⟨⟨A,n,c,rfl,_⟩,hW⟩
 exact ⟨⟨A,n,c,rfl⟩,hW⟩
theorem doB (b g:Nat) (vM vQ vJ:Value) (w:World) (hG:∃ lst,Gs w b g lst vM vQ vJ sgA):Calls Tryz.prog 18 #[.pointer (some ⟨g,0,none⟩),.agg ozA.arr] w fun e w'=>
   (∃ A n c,e = .returned (.agg #[.int .i64 8,.slice A n c]))/\Went w w' b g vM vQ vJ sgA sgA:=by
 have h:=do_any b g vM vQ vJ sgA ozA (sgA,8,[]) w hG (ozA_ok w) (fun _=>by rw [<- addB];exact perform_3 b g vM vQ vJ sgA ozA rfl smA ascA1 (fun h=>by rw [hasA1] at h;cases h))
 rw [ozA_B] at h
 refine h.mono ?_
 rintro e w' ⟨⟨A,n,c,rfl,_⟩,hW⟩
 exact ⟨⟨A,n,c,rfl⟩,hW⟩
theorem Went.below {w w':World} {b g:Nat} {lst:Int} {vM vQ vJ:Value} {S T:Sg} (hG:Gs w b g lst vM vQ vJ S) (hb:b<=w.heap.size) (h:Went w w' b g vM vQ vJ S T):Below b w w':=by
 obtain ⟨_,_,_,_,_,_,_,h3,_⟩:=h
 exact h3.below hb fun k hk=>(hG.blk hk).1
theorem stateA (b g:Nat) (lst:Int) (vM vQ vJ:Value) (w:World) (hG:Gs w b g lst vM vQ vJ sgA):Calls Tryz.prog 20 #[.pointer (some ⟨g,0,none⟩)] w fun e w'=>
  (∃ A N c B d C n f,e = .returned (.agg #[.int .i64 0,.int .i64 1,.slice A N c,.slice B 1 d,.slice C n f]))/\Below w.heap.size w w':=by
 refine (state_any b g lst vM vQ vJ sgA w hG smA).mono ?_
 rintro e w' ⟨⟨vM6,vQ6,vJ6,S6,rfl,hO6,hS6⟩,hb6⟩
 obtain rfl:S6=sgA:=bare_alone hS6 rfl rfl
 obtain ⟨B6,c6,hv6,_,_,_,_⟩:=hO6.Q.sl
 have hv7:vQ6 = .slice B6 1 c6:=hv6
 obtain ⟨A6,d6,hv8,_,_,_,_⟩:=hO6.M.sl
 obtain ⟨C6,f6,hv9,_,_,_,_⟩:=hO6.J.sl
 subst hv7 hv8 hv9
 exact ⟨⟨_,_,_,_,_,_,_,_,rfl⟩,hb6⟩
theorem fieldA (A:Option Addr) (N c:Nat) (B:Option Addr) (d:Nat) (C:Option Addr) (n f:Nat) (w:World):(Instr.field 31 (.agg #[.int .i64 0,.int .i64 1,.slice A N c,.slice B 1 d,.slice C n f]) 3).run Tryz.prog w = .ok (.slice B 1 d) w:=by kernel_rfl


theorem awake15_any (w:World):Calls Tryz.prog 12 #[] w fun e w'=>e = .returned (.bool true)/\Below w.heap.size w w':=by
 have K1:=Lib.hid (fun W=>new_any W)
 have K2:=Lib.hid (fun b g vM vQ vJ W h=>doA b g vM vQ vJ W h)
 have K3:=Lib.hid (fun b g vM vQ vJ W h=>doB b g vM vQ vJ W h)
 have K4:=Lib.hid (fun b g lst vM vQ vJ (W:World) (h:Gs W b g lst vM vQ vJ sgA)=>stateA b g lst vM vQ vJ W h)
 have hfd:=fieldA
 have K5:=Lib.hid (fun W=>right_blank W)
 go_enter Tryz.func12,Tryz.ntmps12
 go_wp2_with fail
 refine (K1.out _).mono ?_;rintro e w1 ⟨rfl,hG1,hb1⟩
 have HG1:=Lib.hid hG1;clear hG1
 go_wp2_with fail
 refine (K2.out w.heap.size w.heap.size _ _ _ w1 ⟨0,HG1.out⟩).mono ?_;rintro e w2 ⟨⟨A2,n2,c2,rfl⟩,hW2⟩
 have hb2:Below w.heap.size w w2:=hb1.trans (hW2.below HG1.out hb1.size)
 obtain ⟨lst2,vM2,vQ2,vJ2,S2,hG2,hS2,_,_⟩:=hW2
 obtain rfl:S2=sgA:=bare_alone hS2 rfl rfl
 have HG2:=Lib.hid hG2;clear hG2 HG1 hS2
 go_wp2_with ((with_reducible refine store_bk rfl 36 (.tmp 2) (.tmp 10) rfl w2.heap.size 0 #[.int .i64 0,.slice A2 n2 c2] rfl rfl 36 _ #[.int .i64 0,.slice A2 n2 c2] (Bk.fresh _ _ _) (by kernel_rfl) (by simp) (by kernel_rfl) rfl ?_);intro w3 hB3 hg3 hs3;have hbl3:Below w2.heap.size w2 w3:=grown_below ((Below.refl _ _).alloc (Nat.le_refl _) _) hg3 (Nat.le_refl _);have HB3:=Lib.hid hB3;have HG3:=Lib.hid (HG2.out.below hbl3);have hb3:Below w.heap.size w w3:=hb2.trans (hbl3.mono hb2.size);clear hB3 hg3 hs3)
 refine (K3.out w.heap.size w.heap.size _ _ _ w3 ⟨_,HG3.out⟩).mono ?_;rintro e w4 ⟨⟨A4,n4,c4,rfl⟩,hW4⟩
 have hb4:Below w.heap.size w w4:=hb3.trans (hW4.below HG3.out hb3.size)
 have HB4:Hid (Bk w4 w2.heap.size 36 #[.int .i64 0,.slice A2 n2 c2]):=by
  obtain ⟨_,_,_,_,_,_,_,h3,_⟩:=hW4
  exact HB3.out.grp h3 fun e=>Nat.lt_irrefl _ (HG2.out.blk e).2
 obtain ⟨lst4,vM4,vQ4,vJ4,S4,hG4,hS4,_,_⟩:=hW4
 obtain rfl:S4=sgA:=bare_alone hS4 rfl rfl
 have HG4:=Lib.hid hG4;clear hG4 HG3 hS4 HB3 HG2
 go_wp2_with ((with_reducible refine store_bk rfl 36 (.tmp 3) (.tmp 14) rfl w4.heap.size 0 #[.int .i64 8,.slice A4 n4 c4] rfl rfl 36 _ #[.int .i64 8,.slice A4 n4 c4] (Bk.fresh _ _ _) (by kernel_rfl) (by simp) (by kernel_rfl) rfl ?_);intro w5 hB5 hg5 hs5;have hbl5:Below w4.heap.size w4 w5:=grown_below ((Below.refl _ _).alloc (Nat.le_refl _) _) hg5 (Nat.le_refl _);have HB5:=Lib.hid hB5;have HA5:=Lib.hid (HB4.out.later hbl5);have HG5:=Lib.hid (HG4.out.below hbl5);have hb5:Below w.heap.size w w5:=hb4.trans (hbl5.mono hb4.size);have c0:w5.cell? ⟨w2.heap.size,0,none⟩=some (.int .i64 0):=HA5.out.cellAt 0;have c1:w5.cell? ⟨w4.heap.size,0,none⟩=some (.int .i64 8):=HB5.out.cellAt 0;clear hB5 hg5 hs5 HG4 HB4)
 refine (K4.out w.heap.size w.heap.size _ _ _ _ w5 HG5.out).mono ?_;rintro e w6 ⟨⟨A6,N6,d6,B6,c6,C6,n6,f6,rfl⟩,hb6⟩
 have hb6':Below w.heap.size w w6:=hb5.trans (hb6.mono hb5.size)
 clear HG5 HA5 HB5 c0 c1
 go_wp2_with fail
 refine (K5.out _).mono ?_;rintro e w7 ⟨rfl,hb7⟩
 go_wp2_with fail
 go_ret
 exact ⟨rfl,hb6'.trans (hb7.mono hb6'.size)⟩
end
section
open Go.RowKit
def RetIf (e:Ending) (p:Prop):Prop:=∃ b,e = .returned (.bool b)/\(b=true->p)
theorem RetIf.no {p:Prop}:RetIf (.returned (.bool false)) p:=⟨false,rfl,fun h=>by cases h⟩
theorem RetIf.yes {p:Prop} (h:p):RetIf (.returned (.bool true)) p:=⟨true,rfl,fun _=>h⟩
theorem mem_take_succ {α:Type} {p:α->Prop} {L:List α} {k:Nat} (hk:k<L.length) (h:∀ x ∈ L.take k,p x) (hx:p L[k]):∀ x ∈ L.take (k+1),p x:=by
 intro x hm
 rw [List.take_succ_eq_append_getElem hk] at hm
 rcases List.mem_append.1 hm with h1 | h1
 ·exact h x h1
 ·rw [List.mem_singleton] at h1;subst h1;exact hx
end
section
open Go.RowKit
theorem OwnS.rdOf {w:World} {b:Nat} {S:Sg} {ck nx:Int} {A:Option Addr} {N cA:Nat} {B:Option Addr} {K cB:Nat} {C:Option Addr} {n cC:Nat} (h:OwnS w b (.slice A N cA) (.slice B K cB) (.slice C n cC) S) (h1:ck=S.ck) (h2:nx=S.nx):RdSt w ⟨ck,nx,A,N,cA,B,K,cB,C,n,cC⟩ S:=by
 obtain ⟨⟨ck',nx',A',N',cA',B',K',cB',C',n',cC'⟩,hv,hr⟩:=h.rd
 have e1:Value.slice A' N' cA' = .slice A N cA:=congrArg (fun a:Array Value=>a.getD 2 undef) hv
 have e2:Value.slice B' K' cB' = .slice B K cB:=congrArg (fun a:Array Value=>a.getD 3 undef) hv
 have e3:Value.slice C' n' cC' = .slice C n cC:=congrArg (fun a:Array Value=>a.getD 4 undef) hv
 injection e1 with x1 x2 x3
 injection e2 with x4 x5 x6
 injection e3 with x7 x8 x9
 subst x1 x2 x3 x4 x5 x6 x7 x8 x9
 have e4:ck' = S.ck:=hr.ck
 have e5:nx' = S.nx:=hr.nx
 rw [e4,<- h1,e5,<- h2] at hr
 exact hr


theorem small15_any (x:Oz) (w:World) (hx:OzOk w x):Calls Tryz.prog 29 #[.agg x.arr] w fun e w'=>RetIf e (x.m1<=20/\x.m3<=20)/\Below w.heap.size w w':=by
 obtain ⟨⟨k,nn,a1,b1,c1,l1,qn,a2,b2,c2,tn,tq,tp,a3,b3,c3,l3,ta,tg,ts,s⟩,A1,m1,p1,A3,m3,p3⟩:=x
 have h1:nn.size<=140737488351232:=hx.nn
 have h2:qn.size<=140737488351232:=hx.qn
 have h3:tn.size<=140737488351232:=hx.tn
 have h4:tq.size<=140737488351232:=hx.tq
 have h5:ta.size<=140737488351232:=hx.ta
 have h6:tg.size<=140737488351232:=hx.tg
 have h7:s.size<=140737488351232:=hx.s
 clear hx
 have hb0:Below w.heap.size w (w.alloc (.cells #[.int .i64 k,.string nn,.int .i64 a1,.int .i64 b1,.int .i64 c1,.slice A1 m1 p1,.string qn,.int .i64 a2,.int .i64 b2,.int .i64 c2,.string tn,.string tq,.int .i64 tp,.int .i64 a3,.int .i64 b3,.int .i64 c3,.slice A3 m3 p3,.string ta,.string tg,.int .i64 ts,.string s] 49)):=(Below.refl _ _).alloc (Nat.le_refl _) _
 by_cases e1:m1<=20
 ·by_cases e2:m3<=20
  ·have d1:decide ((m1:Int)<=20)=true:=by rw [decide_eq_true_eq];omega
   have d2:decide ((m3:Int)<=20)=true:=by rw [decide_eq_true_eq];omega
   have HP:Hid (m1<=20/\m3<=20):=⟨e1,e2⟩
   go_enter Tryz.func29,Tryz.ntmps29
   go_wp2
   go_ret
   exact ⟨⟨_,rfl,fun _=>HP.out⟩,hb0⟩
  ·have d1:decide ((m1:Int)<=20)=true:=by rw [decide_eq_true_eq];omega
   have d2:decide ((m3:Int)<=20)=false:=by rw [decide_eq_false_iff_not];omega
   go_enter Tryz.func29,Tryz.ntmps29
   go_wp2
   go_ret
   exact ⟨RetIf.no,hb0⟩
 ·have d1:decide ((m1:Int)<=20)=false:=by rw [decide_eq_false_iff_not];omega
  go_enter Tryz.func29,Tryz.ntmps29
  go_wp2
  go_ret
  exact ⟨RetIf.no,hb0⟩
end
section
open Go.ChangeShapes Go.WideShapes Go.RowKit Go.Deep
theorem cellsOp:Tryz.prog.cellsOf 49=21:=by kernel_rfl
theorem list21 {α:Type} (l:List α) (h:l.length=21):∃ a0 a1 a2 a3 a4 a5 a6 a7 a8 a9 b0 b1 b2 b3 b4 b5 b6 b7 b8 b9 z,l=[a0,a1,a2,a3,a4,a5,a6,a7,a8,a9,b0,b1,b2,b3,b4,b5,b6,b7,b8,b9,z]:=by
 match l,h with
 | [a0,a1,a2,a3,a4,a5,a6,a7,a8,a9,b0,b1,b2,b3,b4,b5,b6,b7,b8,b9,z],_=>exact ⟨a0,a1,a2,a3,a4,a5,a6,a7,a8,a9,b0,b1,b2,b3,b4,b5,b6,b7,b8,b9,z,rfl⟩
section
variable {H:Type} {enc:TypeId × Value->H} {W:World} {base:Nat} {sp:Nat->Bool} {held:Bool}

theorem open_node_f {fuel:Nat} {c0 c1 c2 c3 c4:Value} {y:DataW H × List MemPlace} (h:DataW.trod enc Tryz.prog W base sp held fuel 43 [c0,c1,c2,c3,c4]=some y) :
  ∃ nm a b c A n cp l da dl,c0 = .string nm/\c1 = .int .i64 a/\c2 = .int .i64 b/\c3 = .int .i64 c/\c4 = .slice A n cp/\y.1 = .agg [.lit (.string nm.data.toList),da,dl]/\LabsIn W dl A n cp l:=by
 obtain ⟨ys,n,_,hx,_,hyl,hg⟩:=DataW.trod_struct Tryz.underlying43 h
 obtain ⟨y0,y1,y2,rfl⟩:=list3' ys (by simpa using hyl)
 have h0:DataW.trod enc Tryz.prog W base sp held n 9 (List.take (Tryz.prog.cellsOf 9) [c0,c1,c2,c3,c4])=some y0:=hg 0 _ rfl
 have h1:DataW.trod enc Tryz.prog W base sp held n 40 (List.take (Tryz.prog.cellsOf 40) [c1,c2,c3,c4])=some y1:=hg 1 _ rfl
 have h2:DataW.trod enc Tryz.prog W base sp held n 41 (List.take (Tryz.prog.cellsOf 41) [c4])=some y2:=hg 2 _ rfl
 rw [cells9] at h0
 rw [cellsRes] at h1
 rw [cellsLabs] at h2
 obtain ⟨s,rfl,e0⟩:=open_field_string h0
 obtain ⟨a,b,c,rfl,rfl,rfl⟩:=open_field_res h1
 obtain ⟨A,m,cp,l,rfl,hl⟩:=open_field_labs h2
 exact ⟨s,a,b,c,A,m,cp,l,y1.1,y2.1,rfl,rfl,rfl,rfl,rfl,by have:=congrArg Prod.fst hx;simpa [e0] using this,hl⟩

theorem open_queue_f {fuel:Nat} {c0 c1 c2 c3:Value} {y:DataW H × List MemPlace} (h:DataW.trod enc Tryz.prog W base sp held fuel 45 [c0,c1,c2,c3]=some y) :
  ∃ nm a b c da,c0 = .string nm/\c1 = .int .i64 a/\c2 = .int .i64 b/\c3 = .int .i64 c/\y.1 = .agg [.lit (.string nm.data.toList),da]:=by
 obtain ⟨ys,n,_,hx,_,hyl,hg⟩:=DataW.trod_struct Tryz.underlying45 h
 obtain ⟨y0,y1,rfl⟩:=list2 ys (by simpa using hyl)
 have h0:DataW.trod enc Tryz.prog W base sp held n 9 (List.take (Tryz.prog.cellsOf 9) [c0,c1,c2,c3])=some y0:=hg 0 _ rfl
 have h1:DataW.trod enc Tryz.prog W base sp held n 40 (List.take (Tryz.prog.cellsOf 40) [c1,c2,c3])=some y1:=hg 1 _ rfl
 rw [cells9] at h0
 rw [cellsRes] at h1
 obtain ⟨s,rfl,e0⟩:=open_field_string h0
 obtain ⟨a,b,c,rfl,rfl,rfl⟩:=open_field_res h1
 exact ⟨s,a,b,c,y1.1,rfl,rfl,rfl,rfl,by have:=congrArg Prod.fst hx;simpa [e0] using this⟩

theorem open_task_f {fuel:Nat} {c0 c1 c2 c3 c4 c5 c6 c7 c8 c9:Value} {y:DataW H × List MemPlace} (h:DataW.trod enc Tryz.prog W base sp held fuel 47 [c0,c1,c2,c3,c4,c5,c6,c7,c8,c9]=some y) :
  ∃ nm qu pr a b c A n cp l ap ga sz d2 d3 d4 d7,c0 = .string nm/\c1 = .string qu/\c2 = .int .i64 pr/\c3 = .int .i64 a/\c4 = .int .i64 b/\c5 = .int .i64 c/\c6 = .slice A n cp/\c7 = .string ap/\c8 = .string ga/\c9 = .int .i64 sz /\
   y.1 = .agg [.lit (.string nm.data.toList),.lit (.string qu.data.toList),d2,d3,d4,.lit (.string ap.data.toList),.lit (.string ga.data.toList),d7]/\LabsIn W d4 A n cp l:=by
 obtain ⟨ys,n,_,hx,_,hyl,hg⟩:=DataW.trod_struct Tryz.underlying47 h
 obtain ⟨y0,y1,y2,y3,y4,y5,y6,y7,rfl⟩:=list8 ys (by simpa using hyl)
 have h0:DataW.trod enc Tryz.prog W base sp held n 9 (List.take (Tryz.prog.cellsOf 9) [c0,c1,c2,c3,c4,c5,c6,c7,c8,c9])=some y0:=hg 0 _ rfl
 have h1:DataW.trod enc Tryz.prog W base sp held n 9 (List.take (Tryz.prog.cellsOf 9) [c1,c2,c3,c4,c5,c6,c7,c8,c9])=some y1:=hg 1 _ rfl
 have h2:DataW.trod enc Tryz.prog W base sp held n 3 (List.take (Tryz.prog.cellsOf 3) [c2,c3,c4,c5,c6,c7,c8,c9])=some y2:=hg 2 _ rfl
 have h3:DataW.trod enc Tryz.prog W base sp held n 40 (List.take (Tryz.prog.cellsOf 40) [c3,c4,c5,c6,c7,c8,c9])=some y3:=hg 3 _ rfl
 have h4:DataW.trod enc Tryz.prog W base sp held n 41 (List.take (Tryz.prog.cellsOf 41) [c6,c7,c8,c9])=some y4:=hg 4 _ rfl
 have h5:DataW.trod enc Tryz.prog W base sp held n 9 (List.take (Tryz.prog.cellsOf 9) [c7,c8,c9])=some y5:=hg 5 _ rfl
 have h6:DataW.trod enc Tryz.prog W base sp held n 9 (List.take (Tryz.prog.cellsOf 9) [c8,c9])=some y6:=hg 6 _ rfl
 have h7:DataW.trod enc Tryz.prog W base sp held n 3 (List.take (Tryz.prog.cellsOf 3) [c9])=some y7:=hg 7 _ rfl
 rw [cells9] at h0 h1 h5 h6
 rw [cellsInt] at h2 h7
 rw [cellsRes] at h3
 rw [cellsLabs] at h4
 obtain ⟨nm,rfl,e0⟩:=open_field_string h0
 obtain ⟨qu,rfl,e1⟩:=open_field_string h1
 obtain ⟨pr,rfl⟩:=open_field_int h2
 obtain ⟨a,b,c,rfl,rfl,rfl⟩:=open_field_res h3
 obtain ⟨A,m,cp,l,rfl,hl⟩:=open_field_labs h4
 obtain ⟨ap,rfl,e5⟩:=open_field_string h5
 obtain ⟨ga,rfl,e6⟩:=open_field_string h6
 obtain ⟨sz,rfl⟩:=open_field_int h7
 exact ⟨nm,qu,pr,a,b,c,A,m,cp,l,ap,ga,sz,y2.1,y3.1,y4.1,y7.1,rfl,rfl,rfl,rfl,rfl,rfl,rfl,rfl,rfl,rfl,by have:=congrArg Prod.fst hx;simpa [e0,e1,e5,e6] using this,hl⟩
theorem sized_op {ts:List TypeId} {ds:List (DataW H)} (h:(DataW.weightsEach Tryz.prog ts ds).all (· <= reachBytes)=true) {j:Nat} {nn qn tn tq ta tg s:ByteArray} {d0 da dl qa e2 e3 e4 e7:DataW H} (ht:ts[j]? = some 49)
  (hd:ds[j]? = some (.agg [d0,.agg [.lit (.string nn.data.toList),da,dl],.agg [.lit (.string qn.data.toList),qa],.agg [.lit (.string tn.data.toList),.lit (.string tq.data.toList),e2,e3,e4,.lit (.string ta.data.toList),.lit (.string tg.data.toList),e7],.lit (.string s.data.toList)]))
  {A1 A3:Option Addr} {m1 p1 m3 p3:Nat} {l1 l3:List Lb} (hl1:LabsIn W dl A1 m1 p1 l1) (hl3:LabsIn W e4 A3 m3 p3 l3) :
  Sz l1/\Sz l3/\nn.size<=140737488351232/\qn.size<=140737488351232/\tn.size<=140737488351232/\tq.size<=140737488351232/\ta.size<=140737488351232/\tg.size<=140737488351232/\s.size<=140737488351232:=by
 have hi:=sized_inner h Tryz.underlying49 ht hd
 obtain ⟨n1,n2⟩:=sized_node hi (j:=1) rfl rfl hl1
 have q1:=sized_queue hi (j:=2) rfl rfl
 obtain ⟨t1,t2,t3,t4,t5⟩:=sized_task hi (j:=3) rfl rfl hl3
 exact ⟨n2,t5,n1,q1,t1,t2,t3,t4,sized_str hi (j:=4) rfl rfl⟩
end
end
end Go.Proofs.YtccccbofcnmdiaaGreat
