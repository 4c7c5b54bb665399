/- Lemmas that the law stands on. No condition. -/
import Derived.Test.YtccccbofcnmdiaaGreatM25
namespace Go.Proofs.YtccccbofcnmdiaaGreat
set_option linter.unusedSimpArgs false
set_option linter.unusedVariables false
set_option maxRecDepth 100000
set_option maxHeartbeats 51200000
section
open Go.RowKit
theorem append15_kn {P:Program} {ops:Array Oper} {rest:List Oper} (w:World) {o:Oper} {a:Act} {Q:Exit->Act->World->Prop} (hw:Region.wanted o (yielded ops a.tmps)=true)
  (s x:Operand) (t:TypeId) (hop:o.op=Op.call { callee:=Callee.builtin Builtin.append,args:=#[s,x],argTypes:=#[t,t] })
  (base:Nat) (e:TypeId) (z:Value) (k b:Nat) (h1:P.underlying t=some (.slice e)) (h2:(P.info? e).map (fun i=>(i.zero,i.size,i.bytes))=some (some z,k,b)) (hz:z.cells.size=k) (hk:0<k)
  (v:Value) (l:List (List Value)) (hs:a.eval s=v) (hown:OwnK w base e k v l) (A:Option Addr) (c m:Nat) (news:List (List Value))
  (hx:a.eval x = .slice A m c) (hr:RdK w k A news) (hn:∀ y ∈ news,y.length=k) (hone:∀ y ∈ news,∀ u ∈ y,u.oneCell' = true) (hm:m=news.length)
  (b0:l.length+news.length<=maxLen) (b1:(l.length+news.length) * b<=140737488355328) (hbase:base<=w.heap.size)
  (hK:∀ v' w',OwnK w' base e k v' (l ++ news)->w.grownBy w' v.ownBlock->wpList P ops Q rest (a.put o.dst v') w'):wpList P ops Q (o :: rest) a w:=
 BigFrame.wpList_want hw fun K hKK=>append_kn_op w s x t hop base e z k b h1 h2 hz hk v l hs hown A c m news hx hr hn hone hm b0 b1 hbase (fun v' w' h1 h2=>hKK _ _ (hK v' w' h1 h2))
def late (ck:Int) (x:Ml):Bool:=x.1.up && decide (x.1.un<ck)
def downX (x:Ml):Ml:=({ x.1 with up:=false },x.2)
def noM:Ml:=(⟨⟨#[]⟩,0,0,0,none,0,0,false,0⟩,[])
abbrev ml (L:List Ml) (p:Nat):Ml:=L.getD p noM
def expS (T:Sg × List Ac) (i:Nat):Sg × List Ac:=
 if late T.1.ck (ml T.1.M i) then ({ T.1 with M:=T.1.M.set i (downX (ml T.1.M i)),J:=relJ (ml T.1.M i).1.nm T.1.J },T.2 ++ relA (ml T.1.M i).1.nm T.1.J) else T
def expK (S:Sg) (k:Nat):Sg × List Ac:=(List.range k).foldl expS (S,[])
def expG (S:Sg):Sg × List Ac:=expK S S.M.length
section
variable {S:Sg} {k:Nat}
theorem expK_succ:expK S (k+1)=expS (expK S k) k:=by unfold expK;rw [List.range_succ,List.foldl_append];rfl
theorem expS_len (T:Sg × List Ac) (i:Nat):(expS T i).1.M.length=T.1.M.length/\(expS T i).1.J.length=T.1.J.length/\(expS T i).2.length<=T.2.length+T.1.J.length:=by
 unfold expS
 split
 ·refine ⟨by simp,by simp [relJ],?_⟩
  rw [List.length_append]
  have:=relA_le (s:=(ml T.1.M i).1.nm) (J:=T.1.J) (k:=T.1.J.length)
  rw [List.take_length] at this;omega
 ·exact ⟨rfl,rfl,by omega⟩
theorem expK_len:∀ k,(expK S k).1.M.length=S.M.length/\(expK S k).1.J.length=S.J.length/\(expK S k).2.length<=k * S.J.length
 | 0=>⟨rfl,rfl,by simp [expK]⟩
 | k+1=>by
  rw [expK_succ]
  obtain ⟨h1,h2,h3⟩:=expS_len (expK S k) k
  obtain ⟨i1,i2,i3⟩:=expK_len k
  rw [Nat.add_mul]
  exact ⟨h1.trans i1,h2.trans i2,by omega⟩
end
theorem ml_at {M:List Ml} {p:Nat} (hp:p<M.length):ml M p=M[p]:=by simp [ml,List.getD,hp]
structure Ex (w wr:World) (b g:Nat) (lst:Int) (vM vQ vJ:Value) (S:Sg) (T:Sg × List Ac) (vA:Value):Prop where
 wn:Wn w wr b g vM vQ vJ S lst vM vQ vJ T.1
 ac:OwnK wr w.heap.size 64 3 vA (cellsA T.2)
theorem Ex.below {w wr w':World} {b g:Nat} {lst:Int} {vM vQ vJ:Value} {S:Sg} {T:Sg × List Ac} {vA:Value} (h:Ex w wr b g lst vM vQ vJ S T vA) (hb:Below wr.heap.size wr w'):Ex w w' b g lst vM vQ vJ S T vA:=⟨h.wn.below hb,h.ac.below hb⟩
theorem OwnK.machAt {w:World} {b r n c p j:Nat} {L:List Mc} {u:Value} (h:OwnK w b 60 7 (.slice (some ⟨r,0,none⟩) n c) (cellsM L)) (hp:p<L.length) (hu:(L[p].cells)[j]? = some u):w.cell? ⟨r,p * 7+j,none⟩=some u:=by
 have h1:=h.range (p:=p) (by rw [cellsM_length];exact hp)
 have h2:(cellsM L)[p]'(by rw [cellsM_length];exact hp)=L[p].cells:=by simp [cellsM]
 rw [h2] at h1
 exact h1 j u hu
theorem cellsM_down {L:List Mc} {p:Nat} (hp:p<L.length):cellsM (L.set p { L[p] with up:=false })=(cellsM L).set p (((cellsM L)[p]'(by rw [cellsM_length];exact hp)).set 5 (.bool false)):=by
 simp only [cellsM,List.map_set,List.getElem_map]
 rfl
section
variable {w w' w1 w2 wr:World} {b g r n c p:Nat} {lst:Int} {vQ vJ vA v':Value} {S:Sg} {T:Sg × List Ac}
theorem Ex.down (h:Ex w wr b g lst (.slice (some ⟨r,0,none⟩) n c) vQ vJ S T vA) (hp:p<T.1.M.length) :
  wr.frozen? ⟨r,p * 7+5,none⟩=false/\Wn w (wr.setCell ⟨r,p * 7+5,none⟩ (.bool false)) b g (.slice (some ⟨r,0,none⟩) n c) vQ vJ S lst (.slice (some ⟨r,0,none⟩) n c) vQ vJ { T.1 with M:=T.1.M.set p (downX T.1.M[p]) } /\ OwnK (wr.setCell ⟨r,p * 7+5,none⟩ (.bool false)) w.heap.size 64 3 vA (cellsA T.2):=by
 have hq:=h.wn.gs.own.M.put (show p<(cellsM (mcs T.1.M)).length by rw [cellsM_length,List.length_map];exact hp) (show 5<7 by decide) (.bool false)
 have hg:GrP (fun k=>(Value.slice (some ⟨r,0,none⟩) n c).ownBlock=some k) wr (wr.setCell ⟨r,p * 7+5,none⟩ (.bool false)):=(GrP.refl (fun k=>(Value.slice (some ⟨r,0,none⟩) n c).ownBlock=some k) wr).set (a:=⟨r,p * 7+5,none⟩) rfl _
 refine ⟨hq.2.2,h.wn.trans (h.wn.gs.oneM (y:=downX T.1.M[p]) hp hg ?_ (h.wn.gs.own.zM T.1.M[p] (List.getElem_mem hp)) ⟨rfl,rfl,rfl,rfl⟩),h.ac.grp hg fun k hk e=>h.ac.parted h.wn.gs.own.M (by decide) hk e⟩
 have e:=cellsM_down (L:=mcs T.1.M) (p:=p) (by rw [List.length_map];exact hp)
 have e2:(mcs T.1.M)[p]'(by rw [List.length_map];exact hp)=T.1.M[p].1:=by simp [mcs]
 rw [<- e] at hq
 rw [e2] at hq
 exact hq.1
end


theorem expire_any (b g:Nat) (lst:Int) (vM vQ vJ:Value) (S:Sg) (w:World) (hG:Hid (Gs w b g lst vM vQ vJ S)) (hMl:S.M.length<=1000) (hJl:S.J.length<=1000) :
  Calls Tryz.prog 134 #[.pointer (some ⟨g,0,none⟩)] w fun e w'=>(∃ v,e = .returned v/\OwnK w' w.heap.size 64 3 v (cellsA (expG S).2))/\Wn w w' b g vM vQ vJ S lst vM vQ vJ (expG S).1:=by
 obtain ⟨A,cA,hv,_,_,_,_⟩:=hG.out.own.M.sl
 obtain ⟨n,hn⟩:∃ n,n=S.M.length:=⟨_,rfl⟩
 rw [cellsM_length,List.length_map,<- hn] at hv
 subst hv
 have HN:=Lib.hid hn
 have HNB:Hid (n<=1000):=by show _<=_;rw [hn];exact hMl
 have HJB:Hid (S.J.length<=1000):=hJl
 have H0:Hid (Ex w w b g lst (.slice A n cA) vQ vJ S (expK S 0) (.slice none 0 0)):=⟨Wn.refl hG.out,OwnK.nil _ _ _ _⟩
 have c2:w.cell? ⟨g,2,none⟩=some (.slice A n cA):=hG.out.bk.cellAt 2
 clear hn hMl hJl
 go_enter Tryz.func134,Tryz.ntmps134
 go_wp2_with fail
 clear c2
 go_loopw [3,11] (fun s3 s11 wr=>∃ (k:Nat),k<=n/\s11 = .int .i64 k/\Hid (Ex w wr b g lst (.slice A n cA) vQ vJ S (expK S k) s3)) (fun s3 s11 wr=>n - (intOf s11).toNat)
 case atStart=>exact ⟨0,Nat.zero_le _,rfl,H0⟩
 case round=>
  clear H0
  obtain ⟨k,hk,rfl,H⟩:=hrel
  by_cases hlt:k<n
  ·obtain ⟨T,hT⟩:∃ T,T=expK S k:=⟨_,rfl⟩
   have hlen:=expK_len (S:=S) k
   rw [<- hT] at H hlen
   have hs:expK S (k+1)=expS T k:=by rw [expK_succ,hT]
   have HS:=Lib.hid hs
   have hkl:k<T.1.M.length:=by rw [hlen.1,<- HN.out];exact hlt
   have HKL:=Lib.hid hkl
   have HTJ:Hid (T.1.J.length<=1000):=by show _<=_;rw [hlen.2.1];exact HJB.out
   have HTA:Hid (T.2.length<=1000000):=by show _<=_;have:=hlen.2.2;have h1:=HJB.out;have h2:=HNB.out;have h3:k * S.J.length<=1000 * 1000:=Nat.mul_le_mul (by omega) h1;omega
   obtain ⟨r,rfl⟩:=H.out.wn.gs.own.M.at0 (by rw [cellsM_length,List.length_map];omega)
   obtain ⟨x,hx⟩:∃ x,x=ml T.1.M k:=⟨_,rfl⟩
   have hx1:(mcs T.1.M)[k]'(by rw [List.length_map];exact hkl)=x.1:=by rw [hx,ml_at hkl];simp only [mcs,List.getElem_map]
   have HX:=Lib.hid hx
   have hgM:∀ W,Gs W b g lst (.slice (some ⟨r,0,none⟩) n cA) vQ vJ T.1 -> ∀ (j:Nat) (u:Value),(x.1.cells)[j]? = some u->W.cell? ⟨r,k * 7+j,none⟩=some u:=fun W h j u hu=>by
    refine h.own.M.machAt (p:=k) (by rw [List.length_map];exact hkl) ?_
    rw [hx1];exact hu
   have KM:=Lib.hid hgM
   obtain ⟨up,hup⟩:∃ up,up=x.1.up:=⟨_,rfl⟩
   obtain ⟨un,hun⟩:∃ un,un=x.1.un:=⟨_,rfl⟩
   obtain ⟨nm,hnm⟩:∃ nm,nm=x.1.nm:=⟨_,rfl⟩
   obtain ⟨ck,hck⟩:∃ ck,ck=T.1.ck:=⟨_,rfl⟩
   have HLT:Hid (late T.1.ck (ml T.1.M k)=(up && decide (un<ck))):=by show _=_;rw [<- hx,hup,hun,hck];rfl
   have HNM:Hid (nm=(ml T.1.M k).1.nm):=by show _=_;rw [<- hx];exact hnm
   have hwk:wrap64 ((k:Int)+1)=((k+1:Nat):Int):=by have:=HNB.out;unfold wrap64;omega
   have c2:wr.cell? ⟨g,2,none⟩=some (.slice (some ⟨r,0,none⟩) n cA):=H.out.wn.gs.bk.cellAt 2
   have c0:wr.cell? ⟨g,0,none⟩=some (.int .i64 ck):=by rw [hck];exact H.out.wn.gs.bk.cellAt 0
   have cup:wr.cell? ⟨r,k * 7+5,none⟩=some (.bool up):=by rw [hup];exact KM.out _ H.out.wn.gs 5 _ rfl
   have cun:wr.cell? ⟨r,k * 7+6,none⟩=some (.int .i64 un):=by rw [hun];exact KM.out _ H.out.wn.gs 6 _ rfl
   have lg:g<wr.heap.size:=H.out.wn.gs.bk.here
   have lr:r<wr.heap.size:=H.out.wn.gs.own.M.isRow
   have HCN:Hid (x.1.cells[0]? = some (.string nm)):=by show _=_;rw [hnm];rfl
   have HUP:=Lib.hid hup
   clear hT hlen hs hkl hx hx1 hgM hup hun hnm hck
   by_cases hlate:(up && decide (un<ck))=true
   ·obtain ⟨hu1,hu2⟩:=Bool.and_eq_true_iff.1 hlate
    subst hu1
    have hd:decide (un<ck)=true:=hu2
    have HR:Hid (expK S (k+1)=({ T.1 with M:=T.1.M.set k (downX (T.1.M[k]'HKL.out)),J:=relJ nm T.1.J },T.2 ++ relA nm T.1.J)):=by
     show _=_
     rw [HS.out];unfold expS;rw [HLT.out,if_pos hlate,<- HNM.out,ml_at HKL.out]
    clear hlate hu2 HS HLT
    go_wp2_with fail
    go_quiet (fail)
    have HX1:=Lib.hid (H.out.below (w':=wr.drewN nq) (bdrewN (Below.refl _ _) _))
    have hdn:=HX1.out.down HKL.out
    have f5:(wr.drewN nq).frozen? ⟨r,k * 7+5,none⟩=false:=hdn.1
    have c5:(wr.drewN nq).cell? ⟨r,k * 7+5,none⟩=some (.bool true):=KM.out _ HX1.out.wn.gs 5 _ (by rw [HUP.out];rfl)
    have HW2:=Lib.hid hdn.2.1
    have HA2:=Lib.hid hdn.2.2
    have HSZ:Hid (w.heap.size<=((wr.drewN nq).setCell ⟨r,k * 7+5,none⟩ (.bool false)).heap.size):=hdn.2.1.gr.size
    have cnm:((wr.drewN nq).setCell ⟨r,k * 7+5,none⟩ (.bool false)).cell? ⟨r,k * 7,none⟩=some (.string nm):=by
     refine HW2.out.gs.own.M.machAt (p:=k) (j:=0) (by rw [List.length_map,List.length_set];exact HKL.out) ?_
     simp only [mcs,List.getElem_map,List.getElem_set_self]
     rw [HNM.out,ml_at HKL.out]
     rfl
    have KR:=Lib.hid (release_any b g lst _ vQ vJ _ nm _ (Lib.hid HW2.out.gs) HTJ.out)
    clear hdn H HX1 cun c2 c0 cup KM HUP HCN
    go_wp2_with fail
    refine KR.out.mono ?_;rintro e w5 ⟨⟨v5,rfl,hO5⟩,hW5⟩
    obtain ⟨A5,c5',hv5,hr5,_,_,_⟩:=hO5.sl
    obtain ⟨l5,hl5⟩:∃ l5,l5=relA nm T.1.J:=⟨_,rfl⟩
    have hll:l5.length<=1000:=by rw [hl5];have:=relA_le (s:=nm) (J:=T.1.J) (k:=T.1.J.length);rw [List.take_length] at this;have:=HTJ.out;omega
    have hv5':v5 = .slice A5 (cellsA l5).length c5':=by rw [hv5,hl5]
    have hr5':RdK w5 3 A5 (cellsA l5):=by rw [hl5];exact hr5
    subst hv5'
    have HR5:=Lib.hid hr5'
    have HLL:=Lib.hid hll
    have HW5:=Lib.hid (HW2.out.trans hW5)
    have HA5:=Lib.hid (hW5.rowA HW2.out.gs HA2.out)
    have HSZ5:Hid (w.heap.size<=w5.heap.size):=(HW2.out.trans hW5).gr.size
    rw [<- hl5] at HR
    clear hO5 hW5 hv5 hr5 hr5' hll hl5 KR HW2 HA2 cnm f5 c5
    go_wp2_with ((with_reducible refine append15_kn _ rfl (.tmp 38) (.tmp 45) 34 rfl w.heap.size 64 _ 3 40 Tryz.underlying34 infoA15 rfl (by omega) u3 (cellsA T.2) rfl HA5.out A5 c5' (cellsA l5).length (cellsA l5) rfl HR5.out (cellsA_k _) (cellsA_one _) rfl (by have h1:=HTA.out;have h2:=HLL.out;rw [cellsA_length,cellsA_length];simp only [maxLen];omega) (by have h1:=HTA.out;have h2:=HLL.out;rw [cellsA_length,cellsA_length];omega) HSZ5.out ?_);intro v6 w6 hO6 hg6;have H1:Hid (Ex w w6 b g lst (.slice (some ⟨r,0,none⟩) n cA) vQ vJ S (expK S (k+1)) v6):=(by rw [HR.out];exact ⟨HW5.out.acts HA5.out hg6 (Nat.le_refl _),by rw [cellsA_append];exact hO6⟩);clear hO6 hg6)
    go_round
    case rel=>exact ⟨k+1,by omega,by go_num,H1⟩
    case measure=>rw [hwk];show n - ((k+1:Nat):Int).toNat<n - (k:Int).toNat;rw [Int.toNat_natCast,Int.toNat_natCast];omega
   ·have HR:Hid (expK S (k+1)=T):=by show _=_;rw [HS.out];unfold expS;rw [HLT.out,if_neg hlate]
    cases up with
    | false=>
     clear hlate
     go_wp2_with fail
     go_quiet (fail)
     have H1:Hid (Ex w (wr.drewN nq) b g lst (.slice (some ⟨r,0,none⟩) n cA) vQ vJ S (expK S (k+1)) u3):=by rw [HR.out];exact H.out.below (bdrewN (Below.refl _ _) _)
     go_wp2_with fail
     go_round
     case rel=>exact ⟨k+1,by omega,by go_num,H1⟩
     case measure=>rw [hwk];show n - ((k+1:Nat):Int).toNat<n - (k:Int).toNat;rw [Int.toNat_natCast,Int.toNat_natCast];omega
    | true=>
     have hd:decide (un<ck)=false:=by rw [Bool.true_and] at hlate;simpa using hlate
     clear hlate
     go_wp2_with fail
     go_quiet (fail)
     have H1:Hid (Ex w (wr.drewN nq) b g lst (.slice (some ⟨r,0,none⟩) n cA) vQ vJ S (expK S (k+1)) u3):=by rw [HR.out];exact H.out.below (bdrewN (Below.refl _ _) _)
     go_wp2_with fail
     go_round
     case rel=>exact ⟨k+1,by omega,by go_num,H1⟩
     case measure=>rw [hwk];show n - ((k+1:Nat):Int).toNat<n - (k:Int).toNat;rw [Int.toNat_natCast,Int.toNat_natCast];omega
  ·have hkn:k=n:=by omega
   subst hkn
   have HF:Hid (OwnK wr w.heap.size 64 3 u3 (cellsA (expG S).2)/\Wn w wr b g (.slice A k cA) vQ vJ S lst (.slice A k cA) vQ vJ (expG S).1):=by
    have h1:=H.out.wn;have h2:=H.out.ac
    unfold expG
    rw [<- HN.out]
    exact ⟨h2,h1⟩
   clear H hk hlt
   go_wp2_with fail
   go_ret
   exact ⟨⟨u3,rfl,HF.out.1⟩,HF.out.2⟩
end
end Go.Proofs.YtccccbofcnmdiaaGreat
