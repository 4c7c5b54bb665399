/- Lemmas that the law stands on. No condition. -/
import Derived.Test.YtlodjgcnffmniaaGreatM48
namespace Go.Proofs.YtlodjgcnffmniaaGreat
set_option linter.unusedSimpArgs false
set_option linter.unusedVariables false
set_option maxRecDepth 100000
set_option maxHeartbeats 51200000
section
open Go.RowKit
theorem insQ_end {q:Qx} {Q:List Qx} (h:lbK q.1 (Q.map fun q=>q.1)=Q.length):insQ q Q=Q ++ [q]:=by
 unfold insQ
 rw [h,List.take_length,List.drop_length]
theorem InsQ.end {b:Nat} {vQ:Value} {Q:List Qx} {q:Qx} (h:lbK q.1 (Q.map fun q=>q.1)=Q.length) (hQ:Q.length<=1000):InsQ b vQ Q q:=by
 intro ad c w hO hr hb _ _ _
 rw [insQ_end h,h]
 refine (insertQ_end b vQ Q q ad c Q.length w (show _=_ from rfl) hQ hO hr hb).mono ?_
 rintro e w' ⟨⟨v',rfl,h1,h2⟩,h3⟩
 refine ⟨⟨v',rfl,h1,h2.imp id fun e k hk=>?_⟩,?_⟩
 ·rw [e] at hk;injection hk with hk;omega
 ·exact (GrP.of h3)
theorem bare_alone {S T:Sg} (h:S.bare=T.bare) (hM:T.M=[]) (hJ:T.J=[]):S=T:=by
 obtain ⟨a,b,M,Q,J⟩:=S
 obtain ⟨a',b',M',Q',J'⟩:=T
 simp only at hM hJ
 subst hM hJ
 unfold Sg.bare at h
 injection h with h1 h2 h3 h4 h5
 have e1:M=[]:=List.map_eq_nil_iff.1 h3
 have e2:J=[]:=List.map_eq_nil_iff.1 h5
 have h1':a=a':=h1
 have h2':b=b':=h2
 have h4':Q=Q':=h4
 rw [h1',h2',e1,h4',e2]
def ozA:Oz:=⟨{ Ov.zero with k:=3,qn:=⟨#[113]⟩ },none,0,0,none,0,0⟩
def sgA:Sg:={ Sg.new with Q:=[(⟨#[113]⟩,0,0,0)] }
theorem ozA_ok (w:World):OzOk w ozA:=⟨LbOk.nil w,LbOk.nil w,by decide,by decide,by decide,by decide,by decide,by decide,by decide⟩
theorem ozA_B:opB ozA.v=true:=by kernel_rfl
theorem addA:addQ Sg.new ozA.que=(sgA,0,[]):=by kernel_rfl
theorem addB:addQ sgA ozA.que=(sgA,8,[]):=by kernel_rfl
theorem smA:Sm sgA:=⟨by decide,by decide,by decide,fun x hx=>(by cases hx),fun x hx=>(by cases hx),by decide,by decide⟩
theorem ascA0:AscK (Sg.new.Q.map fun q=>q.1):=fun i j hi hj h=>by simp [Sg.new] at hj
theorem ascA1:AscK (sgA.Q.map fun q=>q.1):=fun i j hi hj h=>by
 have:j<1:=hj
 omega
theorem hasA1:hasK ozA.que.1 (sgA.Q.map fun q=>q.1)=true:=by kernel_rfl
theorem doA (b g:Nat) (vM vQ vJ:Value) (w:World) (hG:∃ lst,Gs w b g lst vM vQ vJ Sg.new):Calls Tryz.prog 18 #[.pointer (some ⟨g,0,none⟩),.agg ozA.arr] w fun e w'=>
   (∃ A n c,e = .returned (.agg #[.int .i64 0,.slice A n c]))/\Went w w' b g vM vQ vJ Sg.new sgA:=by
 have h:=do_any b g vM vQ vJ Sg.new ozA (sgA,0,[]) w hG (ozA_ok w) (fun _=>by rw [<- addA];exact perform_3 b g vM vQ vJ Sg.new ozA rfl sm_new ascA0 (fun _=>InsQ.end (by rfl) (by decide)))
 rw [ozA_B] at h
 refine h.mono ?_
 rintro e w' ⟨⟨A,n,c,rfl,_⟩,hW⟩
 exact ⟨⟨A,n,c,rfl⟩,hW⟩
theorem doB (b g:Nat) (vM vQ vJ:Value) (w:World) (hG:∃ lst,Gs w b g lst vM vQ vJ sgA):Calls Tryz.prog 18 #[.pointer (some ⟨g,0,none⟩),.agg ozA.arr] w fun e w'=>
   (∃ A n c,e = .returned (.agg #[.int .i64 8,.slice A n c]))/\Went w w' b g vM vQ vJ sgA sgA:=by
 have h:=do_any b g vM vQ vJ sgA ozA (sgA,8,[]) w hG (ozA_ok w) (fun _=>by rw [<- addB];exact perform_3 b g vM vQ vJ sgA ozA rfl smA ascA1 (fun h=>by rw [hasA1] at h;cases h))
 rw [ozA_B] at h
 refine h.mono ?_
 rintro e w' ⟨⟨A,n,c,rfl,_⟩,hW⟩
 exact ⟨⟨A,n,c,rfl⟩,hW⟩
theorem Went.below {w w':World} {b g:Nat} {lst:Int} {vM vQ vJ:Value} {S T:Sg} (hG:Gs w b g lst vM vQ vJ S) (hb:b<=w.heap.size) (h:Went w w' b g vM vQ vJ S T):Below b w w':=by
 obtain ⟨_,_,_,_,_,_,_,h3,_⟩:=h
 exact h3.below hb fun k hk=>(hG.blk hk).1
theorem stateA (b g:Nat) (lst:Int) (vM vQ vJ:Value) (w:World) (hG:Gs w b g lst vM vQ vJ sgA):Calls Tryz.prog 20 #[.pointer (some ⟨g,0,none⟩)] w fun e w'=>
  (∃ A N c B d C n f,e = .returned (.agg #[.int .i64 0,.int .i64 1,.slice A N c,.slice B 1 d,.slice C n f]))/\Below w.heap.size w w':=by
 refine (state_any b g lst vM vQ vJ sgA w hG smA).mono ?_
 rintro e w' ⟨⟨vM6,vQ6,vJ6,S6,rfl,hO6,hS6⟩,hb6⟩
 obtain rfl:S6=sgA:=bare_alone hS6 rfl rfl
 obtain ⟨B6,c6,hv6,_,_,_,_⟩:=hO6.Q.sl
 have hv7:vQ6 = .slice B6 1 c6:=hv6
 obtain ⟨A6,d6,hv8,_,_,_,_⟩:=hO6.M.sl
 obtain ⟨C6,f6,hv9,_,_,_,_⟩:=hO6.J.sl
 subst hv7 hv8 hv9
 exact ⟨⟨_,_,_,_,_,_,_,_,rfl⟩,hb6⟩
theorem fieldA (A:Option Addr) (N c:Nat) (B:Option Addr) (d:Nat) (C:Option Addr) (n f:Nat) (w:World):(Instr.field 31 (.agg #[.int .i64 0,.int .i64 1,.slice A N c,.slice B 1 d,.slice C n f]) 3).run Tryz.prog w = .ok (.slice B 1 d) w:=by kernel_rfl


theorem awake15_any (w:World):Calls Tryz.prog 12 #[] w fun e w'=>e = .returned (.bool true)/\Below w.heap.size w w':=by
 have K1:=Lib.hid (fun W=>new_any W)
 have K2:=Lib.hid (fun b g vM vQ vJ W h=>doA b g vM vQ vJ W h)
 have K3:=Lib.hid (fun b g vM vQ vJ W h=>doB b g vM vQ vJ W h)
 have K4:=Lib.hid (fun b g lst vM vQ vJ (W:World) (h:Gs W b g lst vM vQ vJ sgA)=>stateA b g lst vM vQ vJ W h)
 have hfd:=fieldA
 have K5:=Lib.hid (fun W=>right_blank W)
 go_enter Tryz.func12,Tryz.ntmps12
 go_wp2_with fail
 refine (K1.out _).mono ?_;rintro e w1 ⟨rfl,hG1,hb1⟩
 have HG1:=Lib.hid hG1;clear hG1
 go_wp2_with fail
 refine (K2.out w.heap.size w.heap.size _ _ _ w1 ⟨0,HG1.out⟩).mono ?_;rintro e w2 ⟨⟨A2,n2,c2,rfl⟩,hW2⟩
 have hb2:Below w.heap.size w w2:=hb1.trans (hW2.below HG1.out hb1.size)
 obtain ⟨lst2,vM2,vQ2,vJ2,S2,hG2,hS2,_,_⟩:=hW2
 obtain rfl:S2=sgA:=bare_alone hS2 rfl rfl
 have HG2:=Lib.hid hG2;clear hG2 HG1 hS2
 go_wp2_with ((with_reducible refine store_bk rfl 36 (.tmp 2) (.tmp 10) rfl w2.heap.size 0 #[.int .i64 0,.slice A2 n2 c2] rfl rfl 36 _ #[.int .i64 0,.slice A2 n2 c2] (Bk.fresh _ _ _) (by kernel_rfl) (by simp) (by kernel_rfl) rfl ?_);intro w3 hB3 hg3 hs3;have hbl3:Below w2.heap.size w2 w3:=grown_below ((Below.refl _ _).alloc (Nat.le_refl _) _) hg3 (Nat.le_refl _);have HB3:=Lib.hid hB3;have HG3:=Lib.hid (HG2.out.below hbl3);have hb3:Below w.heap.size w w3:=hb2.trans (hbl3.mono hb2.size);clear hB3 hg3 hs3)
 refine (K3.out w.heap.size w.heap.size _ _ _ w3 ⟨_,HG3.out⟩).mono ?_;rintro e w4 ⟨⟨A4,n4,c4,rfl⟩,hW4⟩
 have hb4:Below w.heap.size w w4:=hb3.trans (hW4.below HG3.out hb3.size)
 have HB4:Hid (Bk w4 w2.heap.size 36 #[.int .i64 0,.slice A2 n2 c2]):=by
  obtain ⟨_,_,_,_,_,_,_,h3,_⟩:=hW4
  exact HB3.out.grp h3 fun e=>Nat.lt_irrefl _ (HG2.out.blk e).2
 obtain ⟨lst4,vM4,vQ4,vJ4,S4,hG4,hS4,_,_⟩:=hW4
 obtain rfl:S4=sgA:=bare_alone hS4 rfl rfl
 have HG4:=Lib.hid hG4;clear hG4 HG3 hS4 HB3 HG2
 go_wp2_with ((with_reducible refine store_bk rfl 36 (.tmp 3) (.tmp 14) rfl w4.heap.size 0 #[.int .i64 8,.slice A4 n4 c4] rfl rfl 36 _ #[.int .i64 8,.slice A4 n4 c4] (Bk.fresh _ _ _) (by kernel_rfl) (by simp) (by kernel_rfl) rfl ?_);intro w5 hB5 hg5 hs5;have hbl5:Below w4.heap.size w4 w5:=grown_below ((Below.refl _ _).alloc (Nat.le_refl _) _) hg5 (Nat.le_refl _);have HB5:=Lib.hid hB5;have HA5:=Lib.hid (HB4.out.later hbl5);have HG5:=Lib.hid (HG4.out.below hbl5);have hb5:Below w.heap.size w w5:=hb4.trans (hbl5.mono hb4.size);have c0:w5.cell? ⟨w2.heap.size,0,none⟩=some (.int .i64 0):=HA5.out.cellAt 0;have c1:w5.cell? ⟨w4.heap.size,0,none⟩=some (.int .i64 8):=HB5.out.cellAt 0;clear hB5 hg5 hs5 HG4 HB4)
 refine (K4.out w.heap.size w.heap.size _ _ _ _ w5 HG5.out).mono ?_;rintro e w6 ⟨⟨A6,N6,d6,B6,c6,C6,n6,f6,rfl⟩,hb6⟩
 have hb6':Below w.heap.size w w6:=hb5.trans (hb6.mono hb5.size)
 clear HG5 HA5 HB5 c0 c1
 go_wp2_with fail
 refine (K5.out _).mono ?_;rintro e w7 ⟨rfl,hb7⟩
 go_wp2_with fail
 go_ret
 exact ⟨rfl,hb6'.trans (hb7.mono hb6'.size)⟩
end
section
open Go.RowKit
def RetIf (e:Ending) (p:Prop):Prop:=∃ b,e = .returned (.bool b)/\(b=true->p)
theorem RetIf.no {p:Prop}:RetIf (.returned (.bool false)) p:=⟨false,rfl,fun h=>by cases h⟩
theorem RetIf.yes {p:Prop} (h:p):RetIf (.returned (.bool true)) p:=⟨true,rfl,fun _=>h⟩
theorem mem_take_succ {α:Type} {p:α->Prop} {L:List α} {k:Nat} (hk:k<L.length) (h:∀ x ∈ L.take k,p x) (hx:p L[k]):∀ x ∈ L.take (k+1),p x:=by
 intro x hm
 rw [List.take_succ_eq_append_getElem hk] at hm
 rcases List.mem_append.1 hm with h1 | h1
 ·exact h x h1
 ·rw [List.mem_singleton] at h1;subst h1;exact hx
end
end Go.Proofs.YtlodjgcnffmniaaGreat
