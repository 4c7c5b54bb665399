/- Lemmas that the law stands on. No condition. -/
import Derived.Test.YtccccbofcnmdiaaGreatK11
namespace Go.Proofs.YtccccbofcnmdiaaGreat
set_option linter.unusedSimpArgs false
set_option linter.unusedVariables false
set_option maxRecDepth 100000
set_option maxHeartbeats 51200000
section
open Go.RowKit
theorem append15_kn {P:Program}{ops:Array Oper}{rest:List Oper}(w:World){o:Oper}{a:Act}{Q:Exit->Act->World->Prop}(hw:Region.wanted o (yielded ops a.tmps)=true)
  (s x:Operand)(t:TypeId)(hop:o.op=Op.call { callee:=Callee.builtin Builtin.append,args:=#[s,x],argTypes:=#[t,t] })
  (base:Nat)(e:TypeId)(z:Value) (k b:Nat)(h1:P.underlying t=some (.slice e))(h2:(P.info? e).map (fun i=>(i.zero,i.size,i.bytes))=some (some z,k,b))(hz:z.cells.size=k)(hk:0<k)
  (v:Value)(l:List (List Value))(hs:a.eval s=v)(hown:OwnK w base e k v l)(A:Option Addr) (c m:Nat)(news:List (List Value))
  (hx:a.eval x = .slice A m c)(hr:RdK w k A news)(hn:∀ y ∈ news,y.length=k)(hone:∀ y ∈ news,∀ u ∈ y,u.oneCell' = true)(hm:m=news.length)
  (b0:l.length+news.length<=maxLen)(b1:(l.length+news.length) * b<=140737488355328)(hbase:base<=w.heap.size)
  (hK:∀ v' w',OwnK w' base e k v' (l ++ news)->w.grownBy w' v.ownBlock->wpList P ops Q rest (a.put o.dst v') w'):wpList P ops Q (o :: rest) a w:=
 BigFrame.wpList_want hw fun K hKK=>append_kn_op w s x t hop base e z k b h1 h2 hz hk v l hs hown A c m news hx hr hn hone hm b0 b1 hbase (fun v' w' h1 h2=>hKK _ _ (hK v' w' h1 h2))
def late (ck:Int)(x:Ml):Bool:=x.1.up && decide (x.1.un<ck)
def downX (x:Ml):Ml:=({ x.1 with up:=false },x.2)
def noM:Ml:=(⟨⟨#[]⟩,0,0,0,none,0,0,false,0⟩,[])
abbrev ml (L:List Ml) (p:Nat):Ml:=L.getD p noM
def expS (T:Sg × List Ac) (i:Nat):Sg × List Ac:=
 if late T.1.ck (ml T.1.M i) then ({ T.1 with M:=T.1.M.set i (downX (ml T.1.M i)),J:=relJ (ml T.1.M i).1.nm T.1.J },T.2 ++ relA (ml T.1.M i).1.nm T.1.J) else T
def expK (S:Sg) (k:Nat):Sg × List Ac:=(List.range k).foldl expS (S,[])
def expG (S:Sg):Sg × List Ac:=expK S S.M.length
section
variable {S:Sg}{k:Nat}
theorem expK_succ:expK S (k+1)=expS (expK S k) k:=by unfold expK;rw [List.range_succ,List.foldl_append];rfl
theorem expS_len (T:Sg × List Ac) (i:Nat):(expS T i).1.M.length=T.1.M.length/\(expS T i).1.J.length=T.1.J.length/\(expS T i).2.length<=T.2.length+T.1.J.length:=by
 unfold expS
 split
 ·refine ⟨by simp,by simp [relJ],?_⟩
  rw [List.length_append]
  have:=relA_le (s:=(ml T.1.M i).1.nm) (J:=T.1.J) (k:=T.1.J.length)
  rw [List.take_length] at this;omega
 ·exact ⟨rfl,rfl,by omega⟩
theorem expK_len:∀ k,(expK S k).1.M.length=S.M.length/\(expK S k).1.J.length=S.J.length/\(expK S k).2.length<=k * S.J.length
 | 0=>⟨rfl,rfl,by simp [expK]⟩
 | k+1=>by
  rw [expK_succ]
  obtain ⟨h1,h2,h3⟩:=expS_len (expK S k) k
  obtain ⟨i1,i2,i3⟩:=expK_len k
  rw [Nat.add_mul]
  exact ⟨h1.trans i1,h2.trans i2,by omega⟩
end
theorem ml_at {M:List Ml}{p:Nat}(hp:p<M.length):ml M p=M[p]:=by simp [ml,List.getD,hp]
structure Ex (w wr:World) (b g:Nat) (lst:Int)(vM vQ vJ:Value)(S:Sg)(T:Sg × List Ac)(vA:Value):Prop where
 wn:Wn w wr b g vM vQ vJ S lst vM vQ vJ T.1
 ac:OwnK wr w.heap.size 64 3 vA (cellsA T.2)
theorem Ex.below {w wr w':World}{b g:Nat}{lst:Int}{vM vQ vJ:Value}{S:Sg}{T:Sg × List Ac}{vA:Value}(h:Ex w wr b g lst vM vQ vJ S T vA)(hb:Below wr.heap.size wr w'):Ex w w' b g lst vM vQ vJ S T vA:=⟨h.wn.below hb,h.ac.below hb⟩
theorem OwnK.machAt {w:World}{b r n c p j:Nat}{L:List Mc}{u:Value}(h:OwnK w b 60 7 (.slice (some ⟨r,0,none⟩) n c) (cellsM L))(hp:p<L.length)(hu:(L[p].cells)[j]? = some u):w.cell? ⟨r,p * 7+j,none⟩=some u:=by
 have h1:=h.range (p:=p) (by rw [cellsM_length];exact hp)
 have h2:(cellsM L)[p]'(by rw [cellsM_length];exact hp)=L[p].cells:=by simp [cellsM]
 rw [h2] at h1
 exact h1 j u hu
theorem cellsM_down {L:List Mc}{p:Nat}(hp:p<L.length):cellsM (L.set p { L[p] with up:=false })=(cellsM L).set p (((cellsM L)[p]'(by rw [cellsM_length];exact hp)).set 5 (.bool false)):=by
 simp only [cellsM,List.map_set,List.getElem_map]
 rfl
section
variable {w w' w1 w2 wr:World}{b g r n c p:Nat}{lst:Int} {vQ vJ vA v':Value}{S:Sg}{T:Sg × List Ac}
theorem Ex.down (h:Ex w wr b g lst (.slice (some ⟨r,0,none⟩) n c) vQ vJ S T vA)(hp:p<T.1.M.length) :
  wr.frozen? ⟨r,p * 7+5,none⟩=false/\Wn w (wr.setCell ⟨r,p * 7+5,none⟩ (.bool false)) b g (.slice (some ⟨r,0,none⟩) n c) vQ vJ S lst (.slice (some ⟨r,0,none⟩) n c) vQ vJ { T.1 with M:=T.1.M.set p (downX T.1.M[p]) } /\ OwnK (wr.setCell ⟨r,p * 7+5,none⟩ (.bool false)) w.heap.size 64 3 vA (cellsA T.2):=by
 have hq:=h.wn.gs.own.M.put (show p<(cellsM (mcs T.1.M)).length by rw [cellsM_length,List.length_map];exact hp) (show 5<7 by decide) (.bool false)
 have hg:GrP (fun k=>(Value.slice (some ⟨r,0,none⟩) n c).ownBlock=some k) wr (wr.setCell ⟨r,p * 7+5,none⟩ (.bool false)):=(GrP.refl (fun k=>(Value.slice (some ⟨r,0,none⟩) n c).ownBlock=some k) wr).set (a:=⟨r,p * 7+5,none⟩) rfl _
 refine ⟨hq.2.2,h.wn.trans (h.wn.gs.oneM (y:=downX T.1.M[p]) hp hg ?_ (h.wn.gs.own.zM T.1.M[p] (List.getElem_mem hp)) ⟨rfl,rfl,rfl,rfl⟩),h.ac.grp hg fun k hk e=>h.ac.parted h.wn.gs.own.M (by decide) hk e⟩
 have e:=cellsM_down (L:=mcs T.1.M) (p:=p) (by rw [List.length_map];exact hp)
 have e2:(mcs T.1.M)[p]'(by rw [List.length_map];exact hp)=T.1.M[p].1:=by simp [mcs]
 rw [<- e] at hq
 rw [e2] at hq
 exact hq.1
end


theorem expire_any (b g:Nat) (lst:Int)(vM vQ vJ:Value)(S:Sg)(w:World)(hG:Hid (Gs w b g lst vM vQ vJ S))(hMl:S.M.length<=1000)(hJl:S.J.length<=1000) :
  Calls Tryz.prog 134 #[.pointer (some ⟨g,0,none⟩)] w fun e w'=>(∃ v,e = .returned v/\OwnK w' w.heap.size 64 3 v (cellsA (expG S).2))/\Wn w w' b g vM vQ vJ S lst vM vQ vJ (expG S).1:=by
 obtain ⟨A,cA,hv,_,_,_,_⟩:=hG.out.own.M.sl
 obtain ⟨n,hn⟩:∃ n,n=S.M.length:=⟨_,rfl⟩
 rw [cellsM_length,List.length_map,<- hn] at hv
 subst hv
 have HN:=Lib.hid hn
 have HNB:Hid (n<=1000):=by show _<=_;rw [hn];exact hMl
 have HJB:Hid (S.J.length<=1000):=hJl
 have H0:Hid (Ex w w b g lst (.slice A n cA) vQ vJ S (expK S 0) (.slice none 0 0)):=⟨Wn.refl hG.out,OwnK.nil _ _ _ _⟩
 have c2:w.cell? ⟨g,2,none⟩=some (.slice A n cA):=hG.out.bk.cellAt 2
 clear hn hMl hJl
 go_enter Tryz.func134,Tryz.ntmps134
 go_wp2_with fail
 clear c2
 go_loopw [3,11] (fun s3 s11 wr=>∃ (k:Nat),k<=n/\s11 = .int .i64 k/\Hid (Ex w wr b g lst (.slice A n cA) vQ vJ S (expK S k) s3)) (fun s3 s11 wr=>n - (intOf s11).toNat)
 case atStart=>exact ⟨0,Nat.zero_le _,rfl,H0⟩
 case round=>
  clear H0
  obtain ⟨k,hk,rfl,H⟩:=hrel
  by_cases hlt:k<n
  ·obtain ⟨T,hT⟩:∃ T,T=expK S k:=⟨_,rfl⟩
   have hlen:=expK_len (S:=S) k
   rw [<- hT] at H hlen
   have hs:expK S (k+1)=expS T k:=by rw [expK_succ,hT]
   have HS:=Lib.hid hs
   have hkl:k<T.1.M.length:=by rw [hlen.1,<- HN.out];exact hlt
   have HKL:=Lib.hid hkl
   have HTJ:Hid (T.1.J.length<=1000):=by show _<=_;rw [hlen.2.1];exact HJB.out
   have HTA:Hid (T.2.length<=1000000):=by show _<=_;have:=hlen.2.2;have h1:=HJB.out;have h2:=HNB.out;have h3:k * S.J.length<=1000 * 1000:=Nat.mul_le_mul (by omega) h1;omega
   obtain ⟨r,rfl⟩:=H.out.wn.gs.own.M.at0 (by rw [cellsM_length,List.length_map];omega)
   obtain ⟨x,hx⟩:∃ x,x=ml T.1.M k:=⟨_,rfl⟩
   have hx1:(mcs T.1.M)[k]'(by rw [List.length_map];exact hkl)=x.1:=by rw [hx,ml_at hkl];simp only [mcs,List.getElem_map]
   have HX:=Lib.hid hx
   have hgM:∀ W,Gs W b g lst (.slice (some ⟨r,0,none⟩) n cA) vQ vJ T.1 -> ∀ (j:Nat)(u:Value),(x.1.cells)[j]? = some u->W.cell? ⟨r,k * 7+j,none⟩=some u:=fun W h j u hu=>by
    refine h.own.M.machAt (p:=k) (by rw [List.length_map];exact hkl) ?_
    rw [hx1];exact hu
   have KM:=Lib.hid hgM
   obtain ⟨up,hup⟩:∃ up,up=x.1.up:=⟨_,rfl⟩
   obtain ⟨un,hun⟩:∃ un,un=x.1.un:=⟨_,rfl⟩
   obtain ⟨nm,hnm⟩:∃ nm,nm=x.1.nm:=⟨_,rfl⟩
   obtain ⟨ck,hck⟩:∃ ck,ck=T.1.ck:=⟨_,rfl⟩
   have HLT:Hid (late T.1.ck (ml T.1.M k)=(up && decide (un<ck))):=by show _=_;rw [<- hx,hup,hun,hck];rfl
   have HNM:Hid (nm=(ml T.1.M k).1.nm):=by show _=_;rw [<- hx];exact hnm
   have hwk:wrap64 ((k:Int)+1)=((k+1:Nat):Int):=by have:=HNB.out;unfold wrap64;omega
   have c2:wr.cell? ⟨g,2,none⟩=some (.slice (some ⟨r,0,none⟩) n cA):=H.out.wn.gs.bk.cellAt 2
   have c0:wr.cell? ⟨g,0,none⟩=some (.int .i64 ck):=by rw [hck];exact H.out.wn.gs.bk.cellAt 0
   have cup:wr.cell? ⟨r,k * 7+5,none⟩=some (.bool up):=by rw [hup];exact KM.out _ H.out.wn.gs 5 _ rfl
   have cun:wr.cell? ⟨r,k * 7+6,none⟩=some (.int .i64 un):=by rw [hun];exact KM.out _ H.out.wn.gs 6 _ rfl
   have lg:g<wr.heap.size:=H.out.wn.gs.bk.here
   have lr:r<wr.heap.size:=H.out.wn.gs.own.M.isRow
   have HCN:Hid (x.1.cells[0]? = some (.string nm)):=by show _=_;rw [hnm];rfl
   have HUP:=Lib.hid hup
   clear hT hlen hs hkl hx hx1 hgM hup hun hnm hck
   by_cases hlate:(up && decide (un<ck))=true
   ·obtain ⟨hu1,hu2⟩:=Bool.and_eq_true_iff.1 hlate
    subst hu1
    have hd:decide (un<ck)=true:=hu2
    have HR:Hid (expK S (k+1)=({ T.1 with M:=T.1.M.set k (downX (T.1.M[k]'HKL.out)),J:=relJ nm T.1.J },T.2 ++ relA nm T.1.J)):=by
     show _=_
     rw [HS.out];unfold expS;rw [HLT.out,if_pos hlate,<- HNM.out,ml_at HKL.out]
    clear hlate hu2 HS HLT
    go_wp2_with fail
    go_quiet (fail)
    have HX1:=Lib.hid (H.out.below (w':=wr.drewN nq) (bdrewN (Below.refl _ _) _))
    have hdn:=HX1.out.down HKL.out
    have f5:(wr.drewN nq).frozen? ⟨r,k * 7+5,none⟩=false:=hdn.1
    have c5:(wr.drewN nq).cell? ⟨r,k * 7+5,none⟩=some (.bool true):=KM.out _ HX1.out.wn.gs 5 _ (by rw [HUP.out];rfl)
    have HW2:=Lib.hid hdn.2.1
    have HA2:=Lib.hid hdn.2.2
    have HSZ:Hid (w.heap.size<=((wr.drewN nq).setCell ⟨r,k * 7+5,none⟩ (.bool false)).heap.size):=hdn.2.1.gr.size
    have cnm:((wr.drewN nq).setCell ⟨r,k * 7+5,none⟩ (.bool false)).cell? ⟨r,k * 7,none⟩=some (.string nm):=by
     refine HW2.out.gs.own.M.machAt (p:=k) (j:=0) (by rw [List.length_map,List.length_set];exact HKL.out) ?_
     simp only [mcs,List.getElem_map,List.getElem_set_self]
     rw [HNM.out,ml_at HKL.out]
     rfl
    have KR:=Lib.hid (release_any b g lst _ vQ vJ _ nm _ (Lib.hid HW2.out.gs) HTJ.out)
    clear hdn H HX1 cun c2 c0 cup KM HUP HCN
    go_wp2_with fail
    refine KR.out.mono ?_;rintro e w5 ⟨⟨v5,rfl,hO5⟩,hW5⟩
    obtain ⟨A5,c5',hv5,hr5,_,_,_⟩:=hO5.sl
    obtain ⟨l5,hl5⟩:∃ l5,l5=relA nm T.1.J:=⟨_,rfl⟩
    have hll:l5.length<=1000:=by rw [hl5];have:=relA_le (s:=nm) (J:=T.1.J) (k:=T.1.J.length);rw [List.take_length] at this;have:=HTJ.out;omega
    have hv5':v5 = .slice A5 (cellsA l5).length c5':=by rw [hv5,hl5]
    have hr5':RdK w5 3 A5 (cellsA l5):=by rw [hl5];exact hr5
    subst hv5'
    have HR5:=Lib.hid hr5'
    have HLL:=Lib.hid hll
    have HW5:=Lib.hid (HW2.out.trans hW5)
    have HA5:=Lib.hid (hW5.rowA HW2.out.gs HA2.out)
    have HSZ5:Hid (w.heap.size<=w5.heap.size):=(HW2.out.trans hW5).gr.size
    rw [<- hl5] at HR
    clear hO5 hW5 hv5 hr5 hr5' hll hl5 KR HW2 HA2 cnm f5 c5
    go_wp2_with ((with_reducible refine append15_kn _ rfl (.tmp 38) (.tmp 45) 34 rfl w.heap.size 64 _ 3 40 Tryz.underlying34 infoA15 rfl (by omega) u3 (cellsA T.2) rfl HA5.out A5 c5' (cellsA l5).length (cellsA l5) rfl HR5.out (cellsA_k _) (cellsA_one _) rfl (by have h1:=HTA.out;have h2:=HLL.out;rw [cellsA_length,cellsA_length];simp only [maxLen];omega) (by have h1:=HTA.out;have h2:=HLL.out;rw [cellsA_length,cellsA_length];omega) HSZ5.out ?_);intro v6 w6 hO6 hg6;have H1:Hid (Ex w w6 b g lst (.slice (some ⟨r,0,none⟩) n cA) vQ vJ S (expK S (k+1)) v6):=(by rw [HR.out];exact ⟨HW5.out.acts HA5.out hg6 (Nat.le_refl _),by rw [cellsA_append];exact hO6⟩);clear hO6 hg6)
    go_round
    case rel=>exact ⟨k+1,by omega,by go_num,H1⟩
    case measure=>rw [hwk];show n - ((k+1:Nat):Int).toNat<n - (k:Int).toNat;rw [Int.toNat_natCast,Int.toNat_natCast];omega
   ·have HR:Hid (expK S (k+1)=T):=by show _=_;rw [HS.out];unfold expS;rw [HLT.out,if_neg hlate]
    cases up with
    | false=>
     clear hlate
     go_wp2_with fail
     go_quiet (fail)
     have H1:Hid (Ex w (wr.drewN nq) b g lst (.slice (some ⟨r,0,none⟩) n cA) vQ vJ S (expK S (k+1)) u3):=by rw [HR.out];exact H.out.below (bdrewN (Below.refl _ _) _)
     go_wp2_with fail
     go_round
     case rel=>exact ⟨k+1,by omega,by go_num,H1⟩
     case measure=>rw [hwk];show n - ((k+1:Nat):Int).toNat<n - (k:Int).toNat;rw [Int.toNat_natCast,Int.toNat_natCast];omega
    | true=>
     have hd:decide (un<ck)=false:=by rw [Bool.true_and] at hlate;simpa using hlate
     clear hlate
     go_wp2_with fail
     go_quiet (fail)
     have H1:Hid (Ex w (wr.drewN nq) b g lst (.slice (some ⟨r,0,none⟩) n cA) vQ vJ S (expK S (k+1)) u3):=by rw [HR.out];exact H.out.below (bdrewN (Below.refl _ _) _)
     go_wp2_with fail
     go_round
     case rel=>exact ⟨k+1,by omega,by go_num,H1⟩
     case measure=>rw [hwk];show n - ((k+1:Nat):Int).toNat<n - (k:Int).toNat;rw [Int.toNat_natCast,Int.toNat_natCast];omega
  ·have hkn:k=n:=by omega
   subst hkn
   have HF:Hid (OwnK wr w.heap.size 64 3 u3 (cellsA (expG S).2)/\Wn w wr b g (.slice A k cA) vQ vJ S lst (.slice A k cA) vQ vJ (expG S).1):=by
    have h1:=H.out.wn;have h2:=H.out.ac
    unfold expG
    rw [<- HN.out]
    exact ⟨h2,h1⟩
   clear H hk hlt
   go_wp2_with fail
   go_ret
   exact ⟨⟨u3,rfl,HF.out.1⟩,HF.out.2⟩
end
section
open Go.RowKit
abbrev Bst:=List Ml->List Jl->Nat->ByteArray × Bool
structure BestK (bs:Bst):Prop where
 calls:∀ (A0:Option Addr) (N c0:Nat)(L:List Ml)(A:Option Addr) (n cap:Nat)(J:List Jl) (p:Nat)(w:World)(hp:p<J.length),N=L.length->N<=1000000->RdM w A0 (mcs L)->MsOk w L->n=J.length->n<=1000000->RdJ w A (jbs J)->KtOk w J[p].1.tk J[p].2 ->
  Calls Tryz.prog 189 #[.slice A0 N c0,.slice A n cap,.agg J[p].1.tk.arr] w fun e w'=>e = .returned (.tuple #[.string (bs L J p).1,.bool (bs L J p).2])/\Below w.heap.size w w'
 mem:∀ L J p,(bs L J p).2=true -> ∃ x ∈ L,x.1.nm=(bs L J p).1
theorem jl_no {J:List Jl}{p:Nat}(h:J.length<=p):jl J p=noJ:=by unfold jl;rw [List.getD_eq_getElem?_getD,List.getElem?_eq_none h];rfl
def bindJ (s:ByteArray) (p:Nat)(J:List Jl):List Jl:=J.set p (goX s (jl J p))
def tryK (bs:Bst)(M:List Ml)(J:List Jl)(u:List Nat):Nat->Option (List Jl × List Ac)
 | 0=>some (J,[])
 | k+1=>(tryK bs M J u k).bind fun r=>if (bs M r.1 (u.getD k 0)).2 then some (bindJ (bs M r.1 (u.getD k 0)).1 (u.getD k 0) r.1,r.2 ++ [(1,(jl r.1 (u.getD k 0)).1.nm,(bs M r.1 (u.getD k 0)).1)]) else none
def core (x:Jl):Jl:=({ x.1 with nd:=⟨#[]⟩,bo:=0 },x.2)
theorem map_set_same {α β:Type}{f:α->β}{l:List α}{p:Nat}{y:α}(h:∀ hp:p<l.length,f y=f l[p]):(l.set p y).map f=l.map f:=by
 apply List.ext_getElem (by simp)
 intro i h1 h2
 simp only [List.getElem_map,List.getElem_set]
 split
 ·next e=>subst e;exact h (by simpa using h2)
 ·rfl
theorem bind_core {s:ByteArray}{p:Nat}{J:List Jl}:(bindJ s p J).map core=J.map core:=map_set_same fun hp=>by rw [jl_at hp];rfl
theorem core_mem {J K:List Jl}(h:J.map core=K.map core){x:Jl}(hx:x ∈ J):∃ y ∈ K,core y=core x:=by
 have:core x ∈ K.map core:=by rw [<- h];exact List.mem_map_of_mem hx
 obtain ⟨y,hy,e⟩:=List.mem_map.1 this
 exact ⟨y,hy,e⟩
theorem core_lab {x y:Jl}(h:core y=core x):y.1.A=x.1.A/\y.1.n=x.1.n/\y.1.cp=x.1.cp/\y.2=x.2:=by
 unfold core at h
 injection h with h1 h2
 injection h1
 exact ⟨‹_›,‹_›,‹_›,h2⟩
theorem core_tk {x y:Jl}(h:core y=core x):y.1.tk=x.1.tk/\y.2=x.2:=by
 unfold core at h
 injection h with h1 h2
 injection h1
 exact ⟨by simp only [Jb.tk, *],h2⟩
section
variable {bs:Bst}{M:List Ml}{J:List Jl}{u:List Nat}{r:List Jl × List Ac}
theorem tryK_succ {k:Nat} {r':List Jl × List Ac}(h:tryK bs M J u (k+1)=some r'):∃ r,tryK bs M J u k=some r/\(bs M r.1 (u.getD k 0)).2=true/\r' = (bindJ (bs M r.1 (u.getD k 0)).1 (u.getD k 0) r.1,r.2 ++ [(1,(jl r.1 (u.getD k 0)).1.nm,(bs M r.1 (u.getD k 0)).1)]):=by
 unfold tryK at h
 cases hr:tryK bs M J u k with
 | none=>rw [hr] at h;cases h
 | some r=>
  rw [hr] at h
  simp only [Option.bind_some] at h
  split at h
  ·next hb=>injection h with h;exact ⟨r,rfl,hb,h.symm⟩
  ·cases h
theorem tryK_core:∀ {k:Nat}{r:List Jl × List Ac},tryK bs M J u k=some r->r.1.map core=J.map core/\r.2.length<=k
 | 0,r,h=>by injection h with h;subst h;exact ⟨rfl,Nat.le_refl _⟩
 | k+1,r',h=>by
  obtain ⟨r,hr,_,rfl⟩:=tryK_succ h
  obtain ⟨h1,h2⟩:=tryK_core hr
  exact ⟨bind_core.trans h1,by simp;exact h2⟩
theorem tryK_len {k:Nat}{r:List Jl × List Ac}(h:tryK bs M J u k=some r):r.1.length=J.length:=by
 have:=congrArg List.length (tryK_core h).1
 simpa using this
theorem tryK_bo (hb:∀ x ∈ J,-2305843009213693952<=x.1.bo/\x.1.bo<=2305843009213693952):∀ {k:Nat}{r:List Jl × List Ac},tryK bs M J u k=some r -> ∀ x ∈ r.1,-2305843009213693952<=x.1.bo/\x.1.bo<=2305843009213693952+(k:Int)
 | 0,r,h=>by injection h with h;subst h;exact fun x hx=>⟨(hb x hx).1,by have:=(hb x hx).2;omega⟩
 | k+1,r',h=>by
  obtain ⟨r,hr,_,rfl⟩:=tryK_succ h
  intro x hx
  have ih:=tryK_bo hb hr
  rcases List.mem_or_eq_of_mem_set hx with hx | rfl
  ·have:=ih x hx;exact ⟨this.1,by omega⟩
  ·by_cases hp:u.getD k 0<r.1.length
   ·rw [jl_at hp]
    have:=ih _ (List.getElem_mem hp)
    exact ⟨by show _<=_+1;omega,by show _+1<=_;omega⟩
   ·rw [jl_no (by omega)]
    exact ⟨by show (_:Int)<=0+1;omega,by show (0:Int)+1<=_;omega⟩
theorem tryK_jz (hn:∀ L J p,(bs L J p).2=true -> ∃ x ∈ L,x.1.nm=(bs L J p).1)(hM:∀ x ∈ M,x.1.nm.size<=140737488351232)(hJ:∀ x ∈ J,JzOk x):∀ {k:Nat}{r:List Jl × List Ac},tryK bs M J u k=some r -> ∀ x ∈ r.1,JzOk x
 | 0,r,h=>by injection h with h;subst h;exact hJ
 | k+1,r',h=>by
  obtain ⟨r,hr,hb,rfl⟩:=tryK_succ h
  intro x hx
  have ih:=tryK_jz hn hM hJ hr
  obtain ⟨m,hm,he⟩:=hn _ _ _ hb
  rcases List.mem_or_eq_of_mem_set hx with hx | rfl
  ·exact ih x hx
  ·refine JzOk.go ?_ (by rw [<- he];exact hM m hm)
   by_cases hp:u.getD k 0<r.1.length
   ·rw [jl_at hp];exact ih _ (List.getElem_mem hp)
   ·rw [jl_no (by omega)];exact ⟨by decide,by decide,by decide,by decide,by decide⟩
end
theorem range_tk {w:World}{r o:Nat}{j:Jb}(h:w.rangeAt r o j.arr.toList):w.rangeAt r o j.tk.arr.toList:=fun i u hu=>h i u (by
 have e:j.arr.toList=j.tk.arr.toList ++ [.int .i64 j.sq,.string j.nd,.int .i64 j.bo]:=rfl
 rw [e,List.getElem?_append_left (List.getElem?_eq_some_iff.1 hu).1];exact hu)
def RdN (w:World)(A:Option Addr)(u:List Nat):Prop:=∀ k (h:k<u.length),∃ g o,A=some ⟨g,o,none⟩/\g<w.heap.size/\w.cell? ⟨g,o+k,none⟩=some (.int .i64 (u[k]:Int))
theorem RdN.later {w w':World}{A:Option Addr}{u:List Nat}(h:RdN w A u)(hb:Below w.heap.size w w'):RdN w' A u:=fun k hk=>by
 obtain ⟨g,o,e,hg,hc⟩:=h k hk
 exact ⟨g,o,e,Nat.lt_of_lt_of_le hg hb.size,by rw [hb.cell hg];exact hc⟩
section
variable {w w1:World}{b g:Nat}{lst:Int} {vM vQ vJ v':Value}{S:Sg}
theorem Gs.swapJ {J':List Jl}(h:Gs w b g lst vM vQ vJ S)(hb:Below w.heap.size w w1)(hO:OwnK w1 w.heap.size 66 13 v' (cellsJ (jbs J')))(hbw:b<=w.heap.size)(hz:∀ x ∈ J',JzOk x)(hc:J'.map core=S.J.map core) :
  Wn w (w1.setCell ⟨g,4,none⟩ v') b g vM vQ vJ S lst vM vQ v' { S with J:=J' }:=
 h.setJ (GrP.ofBelow hb) (hO.base hbw) (.inr hO.block) fun x hx=>⟨hz x hx,.inl (by obtain ⟨y,hy,e⟩:=core_mem hc hx;exact ⟨y,hy,core_lab e⟩)⟩
theorem Gs.ktOk {J':List Jl}(h:Gs w b g lst vM vQ vJ S)(hc:J'.map core=S.J.map core){p:Nat}(hp:p<J'.length):KtOk w J'[p].1.tk J'[p].2:=by
 obtain ⟨y,hy,e⟩:=core_mem hc (List.getElem_mem hp)
 obtain ⟨e1,e2⟩:=core_tk e
 rw [<- e1,<- e2]
 have hz:=h.own.zJ y hy
 exact ⟨hz.1,hz.2.1,hz.2.2.1,hz.2.2.2.1,(h.own.lJ y hy).ok⟩
theorem Gs.msOk (h:Gs w b g lst vM vQ vJ S):MsOk w S.M:=fun x hx=>⟨h.own.zM x hx,(h.own.lM x hx).ok⟩
end
theorem bo_ok {x:Int}{k:Nat}(h:-2305843009213693952<=x/\x<=2305843009213693952+(k:Int))(hk:k<=1000):-4611686018427387904<=x/\x<=4611686018427387904:=by omega
structure Tk (w wr:World) (b g:Nat) (lst:Int)(vM vQ vJ:Value)(S:Sg)(bs:Bst)(u:List Nat) (k:Nat)(vT vA:Value)(r:List Jl × List Ac):Prop where
 tr:tryK bs S.M S.J u k=some r
 jb:OwnK wr w.heap.size 66 13 vT (cellsJ (jbs r.1))
 ac:OwnK wr w.heap.size 64 3 vA (cellsA r.2)
 be:Below w.heap.size w wr
def RetT (w w':World)(e:Ending) (b g:Nat) (lst:Int)(vM vQ vJ:Value)(S:Sg):Option (List Jl × List Ac)->Prop
 | none=>e = .returned (.tuple #[.slice none 0 0,.bool false])/\Below w.heap.size w w'
 | some r=>∃ v vJ',e = .returned (.tuple #[v,.bool true])/\OwnK w' w.heap.size 64 3 v (cellsA r.2)/\Wn w w' b g vM vQ vJ S lst vM vQ vJ' { S with J:=r.1 }
theorem tryK_stop {bs:Bst}{M:List Ml}{J:List Jl}{u:List Nat}{r:List Jl × List Ac}:∀ {n k:Nat},k<n->tryK bs M J u k=some r->(bs M r.1 (u.getD k 0)).2=false->tryK bs M J u n=none
 | 0,k,h,_,_=>by omega
 | n+1,k,h,h1,h2=>by
  by_cases e:k=n
  ·subst e;unfold tryK;rw [h1];show (if (bs M r.1 (u.getD k 0)).2 then _ else none)=none;rw [h2];rfl
  ·unfold tryK;rw [tryK_stop (by omega) h1 h2];rfl
theorem tryK_next {bs:Bst}{M:List Ml}{J:List Jl}{u:List Nat}{r:List Jl × List Ac}{k p:Nat}(h:tryK bs M J u k=some r)(hp:u.getD k 0=p)(hb:(bs M r.1 p).2=true):tryK bs M J u (k+1)=some (bindJ (bs M r.1 p).1 p r.1,r.2 ++ [(1,(jl r.1 p).1.nm,(bs M r.1 p).1)]):=by
 unfold tryK;rw [h];show (if (bs M r.1 (u.getD k 0)).2 then _ else none)=_;rw [hp,hb];rfl


theorem place_any (bs:Bst)(hB:Hid (BestK bs)) (b g:Nat) (lst:Int)(vM vQ vJ:Value)(S:Sg)(Au:Option Addr) (nu cu:Nat)(u:List Nat)(w:World)(hG:Hid (Gs w b g lst vM vQ vJ S))(hM:Hid (Sm S))(hbw:Hid (b<=w.heap.size))(hnu:Hid (nu=u.length))(hul:Hid (nu<=1000))(hU:Hid (RdN w Au u))(huJ:Hid (∀ i ∈ u,i<S.J.length))(hbo:Hid (∀ x ∈ S.J,-2305843009213693952<=x.1.bo/\x.1.bo<=2305843009213693952)) :
  Calls Tryz.prog 170 #[.pointer (some ⟨g,0,none⟩),.slice Au nu cu] w fun e w'=>RetT w w' e b g lst vM vQ vJ S (tryK bs S.M S.J u u.length):=by
 obtain ⟨A0,c0,hv,-,-,-,-⟩:=hG.out.own.M.sl
 obtain ⟨N,hN⟩:∃ N,N=S.M.length:=⟨_,rfl⟩
 rw [cellsM_length,List.length_map,<- hN] at hv
 subst hv
 obtain ⟨C,cC,hv,hrd,-,-,-⟩:=hG.out.own.J.sl
 obtain ⟨n,hn⟩:∃ n,n=S.J.length:=⟨_,rfl⟩
 rw [cellsJ_length,List.length_map,<- hn] at hv
 subst hv
 have HN:=Lib.hid hN;have HNJ:=Lib.hid hn
 have HNB:Hid (N<=1000):=by show _<=_;rw [hN];exact hM.out.M
 have HJB:Hid (n<=1000):=by show _<=_;rw [hn];exact hM.out.J
 have c4:w.cell? ⟨g,4,none⟩=some (.slice C n cC):=hG.out.bk.cellAt 4
 have KC:=Lib.hid (cloneJ_any C n cC (jbs S.J) w (show n=_ by rw [List.length_map];exact hn) hrd HJB.out)
 obtain ⟨R,hR⟩:∃ R,R=tryK bs S.M S.J u u.length:=⟨_,rfl⟩
 rw [<- hR]
 have HR:=Lib.hid hR
 clear hN hn hrd hR
 go_enter Tryz.func170,Tryz.ntmps170
 go_wp2_with fail
 refine KC.out.mono ?_;rintro e w1 ⟨vT,rfl,hO1,hb1⟩
 obtain ⟨CT,cT,hvT,-,-,-,-⟩:=hO1.sl
 rw [cellsJ_length,List.length_map,<- HNJ.out] at hvT
 subst hvT
 have H0:Hid (Tk w w1 b g lst (.slice A0 N c0) vQ (.slice C n cC) S bs u 0 (.slice CT n cT) (.slice none 0 0) (S.J,[])):=⟨rfl,hO1,OwnK.nil _ _ _ _,hb1⟩
 clear hO1 hb1 KC c4
 go_wp2_with fail
 go_loopw [7,19] (fun s7 s19 wr=>∃ (k:Nat)(r:List Jl × List Ac),k<=nu/\s19 = .int .i64 k/\Hid (Tk w wr b g lst (.slice A0 N c0) vQ (.slice C n cC) S bs u k (.slice CT n cT) s7 r)) (fun s7 s19 wr=>nu - (intOf s19).toNat)
 case atStart=>exact ⟨0,_,Nat.zero_le _,rfl,H0⟩
 case round=>
  clear H0
  obtain ⟨k,⟨J,acts⟩,hk,rfl,H⟩:=hrel
  by_cases hlt:k<nu
  ·have hku:k<u.length:=by rw [<- hnu.out];exact hlt
   obtain ⟨p,hp⟩:∃ p,p=u[k]:=⟨_,rfl⟩
   have hgd:u.getD k 0=p:=by rw [hp];simp [List.getD,hku]
   have hpS:p<S.J.length:=by rw [hp];exact huJ.out _ (List.getElem_mem hku)
   have hpn:p<n:=by rw [HNJ.out];exact hpS
   have hJl:J.length=S.J.length:=tryK_len H.out.tr
   have hpJ:p<J.length:=by rw [hJl];exact hpS
   have HPJ:=Lib.hid hpJ;have HGD:=Lib.hid hgd;have HJL:=Lib.hid hJl
   obtain ⟨gu,ou,rfl,hgu,hcu⟩:=(hU.out.later H.out.be) k hku
   rw [<- hp] at hcu
   obtain ⟨r,rfl⟩:=H.out.jb.at0 (by rw [cellsJ_length,List.length_map];show 0<J.length;omega)
   obtain ⟨j,hj⟩:∃ j,j=(J[p]'hpJ).1:=⟨_,rfl⟩
   have hjj:(jbs J)[p]'(by rw [List.length_map];exact hpJ)=j:=by rw [hj];simp [jbs]
   have HJJ:=Lib.hid hjj;have HJE:=Lib.hid hj
   have krg:∀ W,OwnK W w.heap.size 66 13 (.slice (some ⟨r,0,none⟩) n cT) (cellsJ (jbs J))->W.rangeAt r (p * 13) j.tk.arr.toList:=fun W h=>by
    have h1:=h.range (p:=p) (by rw [cellsJ_length,List.length_map];exact hpJ)
    have h2:(cellsJ (jbs J))[p]'(by rw [cellsJ_length,List.length_map];exact hpJ)=j.cells:=by simp [cellsJ,hj]
    rw [h2] at h1
    exact range_tk h1
   obtain ⟨mn,hmn⟩:∃ mn,mn=(bs S.M J p).1:=⟨_,rfl⟩
   obtain ⟨ok,hok⟩:∃ ok,ok=(bs S.M J p).2:=⟨_,rfl⟩
   have kb:∀ W,Gs W b g lst (.slice A0 N c0) vQ (.slice C n cC) S->OwnK W w.heap.size 66 13 (.slice (some ⟨r,0,none⟩) n cT) (cellsJ (jbs J))->Calls Tryz.prog 189 #[.slice A0 N c0,.slice (some ⟨r,0,none⟩) n cT,.agg j.tk.arr] W fun e w'=>e = .returned (.tuple #[.string mn,.bool ok])/\Below W.heap.size W w':=fun W h1 h2=>by
    obtain ⟨A',c',hv',hr',-,-,-⟩:=h2.sl
    injection hv' with e1 e2 e3
    subst e1
    have:=hB.out.calls A0 N c0 S.M (some ⟨r,0,none⟩) n cT J p W hpJ HN.out (by have:=HNB.out;omega) h1.own.rdMs h1.msOk (by rw [hJl];exact HNJ.out) (by have:=HJB.out;omega) hr' (h1.ktOk (tryK_core H.out.tr).1 hpJ)
    rw [<- hj,<- hmn,<- hok] at this
    exact this
   have KRG:=Lib.hid krg;have KB:=Lib.hid kb;have HMN:=Lib.hid hmn;have HOK:=Lib.hid hok
   have HG:=Lib.hid (hG.out.below H.out.be);have HJ:=Lib.hid H.out.jb;have HAC:=Lib.hid H.out.ac;have HBE:=Lib.hid H.out.be;have HTR:=Lib.hid H.out.tr
   have hwk:wrap64 ((k:Int)+1)=((k+1:Nat):Int):=by have:=hul.out;unfold wrap64;omega
   have HU1:=Lib.hid (show RdN w (some ⟨gu,ou,none⟩) u from hU.out)
   clear krg kb hgu hp hpS hgd hJl hj hjj hmn hok hku H
   go_wp2_with fail
   refine wp_region_held_drew (S:=fun W=>Gs W b g lst (.slice A0 N c0) vQ (.slice C n cC) S/\OwnK W w.heap.size 66 13 (.slice (some ⟨r,0,none⟩) n cT) (cellsJ (jbs J))/\OwnK W w.heap.size 64 3 u7 (cellsA acts)/\Below w.heap.size w W) (by kernel_rfl) (⟨HG.out.below (Below.drew (Below.refl _ _)),HJ.out.below (Below.drew (Below.refl _ _)),HAC.out.below (Below.drew (Below.refl _ _)),Below.drew HBE.out⟩) (fun hS0=>?_)
   refine wU (i:=0) (v:=?_) rfl ?_ hS0 ?_
   rotate_left
   ·intro W _;go_simp;try with_reducible rfl
   try simp only [Act.put,tD,tB,tA,tE,tF]
   refine wU (i:=1) (v:=?_) rfl ?_ hS0 ?_
   rotate_left
   ·intro W _;go_simp;try with_reducible rfl
   try simp only [Act.put,tZ]
   refine wU (i:=2) (v:=?_) rfl ?_ hS0 ?_
   rotate_left
   ·intro W _;go_simp;try with_reducible rfl
   try simp only [Act.put,tZ]
   refine wU (i:=3) (v:=?_) rfl ?_ hS0 ?_
   rotate_left
   ·intro W hSW;have hx:=hSW.1.bk.cellAt 2;go_simp;try with_reducible rfl
   try simp only [Act.put,tZ]
   refine wU (i:=4) (v:=?_) rfl ?_ hS0 ?_
   rotate_left
   ·intro W _;go_simp;try with_reducible rfl
   try simp only [Act.put,tZ]
   refine wU (i:=5) (v:=?_) rfl ?_ hS0 ?_
   rotate_left
   ·intro W _;go_simp;try with_reducible rfl
   try simp only [Act.put,tZ]
   refine wU (i:=6) (v:=?_) rfl ?_ hS0 ?_
   rotate_left
   ·intro W _;go_simp;try with_reducible rfl
   try simp only [Act.put,tZ]
   refine wU (i:=7) (v:=?_) rfl ?_ hS0 ?_
   rotate_left
   ·intro W _;go_simp;try with_reducible rfl
   try simp only [Act.put,tZ]
   refine wU (i:=8) (v:=?_) rfl ?_ hS0 ?_
   rotate_left
   ·intro W _;go_simp;try with_reducible rfl
   try simp only [Act.put,tZ]
   refine wT (i:=9) (v:=.agg j.tk.arr) rfl (yields_rg (by rfl) 47 _ rfl r (p * 13) rfl j.tk.arr _ (fun W hW=>KRG.out W hW.2.1) Tryz.underlying47 rfl (by kernel_rfl)) hS0 ?_
   try simp only [Act.put,tZ]
   refine wpAnyH_ready (rs:=[10]) (by kernel_rfl) (by simp) ?_
   refine AllReadyH.cons rfl (fun K hK=>?_) AllReadyH.nil
   go_simp
   refine (KB.out _ hS0.1 hS0.2.1).mono ?_
   rintro e w5 ⟨rfl,hb5⟩
   go_simp
   refine hK.out _ _ (⟨hS0.1.below hb5,hS0.2.1.below hb5,hS0.2.2.1.below hb5,hS0.2.2.2.trans (hb5.mono hS0.2.2.2.size)⟩) (fun hS1=>?_)
   clear hK K
   try simp only [Act.put,tZ]
   refine wU (i:=11) (v:=?_) rfl ?_ hS1 ?_
   rotate_left
   ·intro W _;go_simp;try with_reducible rfl
   try simp only [Act.put,tZ]
   refine wU (i:=12) (v:=?_) rfl ?_ hS1 ?_
   rotate_left
   ·intro W _;go_simp;try with_reducible rfl
   try simp only [Act.put,tZ]
   refine wU (i:=14) (v:=?_) rfl ?_ hS1 ?_
   rotate_left
   ·intro W _;go_simp;try with_reducible rfl
   try simp only [Act.put,tZ]
   refine wU (i:=13) (v:=?_) rfl ?_ hS1 ?_
   rotate_left
   ·intro W _;go_simp;try with_reducible rfl
   try simp only [Act.put,tZ]
   refine wU (i:=15) (v:=?_) rfl ?_ hS1 ?_
   rotate_left
   ·intro W _;go_simp;try with_reducible rfl
   try simp only [Act.put,tZ]
   refine wpAnyH_done (by kernel_rfl) ?_ _
   have HG5:=Lib.hid hS1.1;have HJ5:=Lib.hid hS1.2.1;have HA5:=Lib.hid hS1.2.2.1;have HB5:=Lib.hid hS1.2.2.2
   clear hS0 hS1 HG HJ HAC HBE hcu
   cases ok
   case false=>
    have HRN:Hid (R=none):=by show _=_;rw [HR.out];exact tryK_stop (by rw [<- hnu.out];exact hlt) HTR.out (by rw [HGD.out];exact HOK.out.symm)
    go_wp2_with fail
    exact bodyPost_ret (v:=.tuple #[.slice none 0 0,.bool false]) (by simp [results,Tryz.results170,go_sem]) rfl (by rw [HRN.out];exact ⟨rfl,HB5.out⟩)
   case true=>
    have KU:=Lib.hid (bind_any w.heap.size r n cT p mn (jbs J) w5 (by rw [List.length_map];exact HPJ.out) (by rw [HJJ.out,HJE.out];exact bo_ok (tryK_bo hbo.out HTR.out _ (List.getElem_mem HPJ.out)) (Nat.le_trans (Nat.le_of_lt hlt) hul.out)) HJ5)
    rw [HJJ.out] at KU
    go_wp2_with fail
    refine KU.out.mono ?_;rintro e w6 ⟨rfl,hO6,hg6⟩
    have hb6:Below w.heap.size w5 w6:=hg6.below HB5.out.size fun q hq=>by rw [hq];exact HJ5.out.block _ rfl
    have HA6:Hid (OwnK w6 w.heap.size 64 3 u7 (cellsA acts)):=HA5.out.grp hg6 fun q hq e=>HA5.out.parted HJ5.out (by decide) hq (by rw [e];rfl)
    have HJ6:Hid (OwnK w6 w.heap.size 66 13 (.slice (some ⟨r,0,none⟩) n cT) (cellsJ (jbs (bindJ mn p J)))):=by
     show OwnK _ _ _ _ _ _
     rw [show jbs (bindJ mn p J)=(jbs J).set p (j.go mn) by unfold bindJ;rw [jl_at HPJ.out,HJE.out];simp [jbs,List.map_set,goX]]
     exact hO6
    have HB6:Hid (Below w.heap.size w w6):=HB5.out.trans hb6
    have HAL:Hid (acts.length<=1000):=Nat.le_trans (show acts.length<=k from (tryK_core HTR.out).2) (Nat.le_trans (Nat.le_of_lt hlt) hul.out)
    clear hO6 hg6 hb6 KU HJ5 HA5 HB5
    go_wp2_with ((with_reducible refine append_ka _ rfl (.tmp 39) (.tmp 45) 34 rfl w.heap.size 64 _ 3 40 Tryz.underlying34 infoA15 rfl (by omega) u7 (cellsA acts) rfl (HA6.out.alloc _) ⟨w6.heap.size,0,none⟩ 1 1 (cellsA [(1,j.nm,mn)]) rfl (rdA1 (x:=(1,j.nm,mn)) (Bk.fresh _ _ _)) (cellsA_k _) (cellsA_one _) rfl (by have:=HAL.out;rw [cellsA_length,cellsA_length [(1,j.nm,mn)]];simp [maxLen];omega) (by have:=HAL.out;rw [cellsA_length,cellsA_length [(1,j.nm,mn)]];simp;omega) (by have:=HB6.out.size;simp;omega) ?_);intro v7 w7 hO7 hg7 hat7;clear hat7;have H7:Hid (Tk w w7 b g lst (.slice A0 N c0) vQ (.slice C n cC) S bs u (k+1) (.slice (some ⟨r,0,none⟩) n cT) v7 (bindJ mn p J,acts ++ [(1,j.nm,mn)])):=(by
     refine ⟨?_,?_,by rw [cellsA_append];exact hO7,?_⟩
     ·rw [tryK_next HTR.out HGD.out (by rw [<- HOK.out]),<- HMN.out,jl_at HPJ.out,<- HJE.out]
     ·exact (HJ6.out.alloc _).grp (GrP.of hg7) fun q hq e=>HJ6.out.parted HA6.out (by decide) hq e
     ·exact (HB6.out.alloc HB6.out.size _).grown hg7 (by have:=HB6.out.size;simp;omega) (fun q e=>(HA6.out.block _ e)));clear hO7 hg7)
    clear HA6 HJ6 HB6
    go_round
    case rel=>exact ⟨k+1,_,hlt,by go_num,H7⟩
    case measure=>rw [hwk];show nu - ((k+1:Nat):Int).toNat<nu - (k:Int).toNat;rw [Int.toNat_natCast,Int.toNat_natCast];exact Nat.sub_lt_sub_left hlt (Nat.lt_succ_self k)
  ·have hkn:k=nu:=by omega
   have HRS:Hid (R=some (J,acts)):=by show _=_;rw [HR.out,<- hnu.out,<- hkn];exact H.out.tr
   have hgb:Bk wr g 73 #[.int .i64 S.ck,.int .i64 lst,.slice A0 N c0,vQ,.slice C n cC]:=(hG.out.below H.out.be).bk
   have c4:wr.cell? ⟨g,4,none⟩=some (.slice C n cC):=hgb.cellAt 4
   have f4:wr.frozen? ⟨g,4,none⟩=false:=hgb.free 4
   have HF:=Lib.hid (hG.out.swapJ H.out.be H.out.jb hbw.out (tryK_jz hB.out.mem hG.out.own.zM hG.out.own.zJ H.out.tr) (tryK_core H.out.tr).1)
   have HFA:Hid (OwnK (wr.setCell ⟨g,4,none⟩ (.slice CT n cT)) w.heap.size 64 3 u7 (cellsA acts)):=H.out.ac.far (by show g<_;exact hG.out.bk.here) _
   clear hk hlt hgb H
   go_wp2_with fail
   exact bodyPost_ret (v:=.tuple #[u7,.bool true]) (by simp [results,Tryz.results170,go_sem]) rfl (by rw [HRS.out];exact ⟨u7,_,rfl,HFA.out,HF.out⟩)
end
section
open Go.RowKit
abbrev Chs15:=List Ml->List Jl->Nat->ByteArray × List ByteArray × Bool
def cellsN (l:List ByteArray):List (List Value):=l.map fun s=>[.string s]
structure ChoK (ch:Chs15):Prop where
 calls:∀ (A0:Option Addr) (N c0:Nat)(L:List Ml)(A:Option Addr) (n cap:Nat)(J:List Jl) (p:Nat)(w:World)(hp:p<J.length),N=L.length->N<=1000000->RdM w A0 (mcs L)->MsOk w L->n=J.length->n<=1000000->RdJ w A (jbs J)->KtOk w J[p].1.tk J[p].2 ->
  Calls Tryz.prog 191 #[.slice A0 N c0,.slice A n cap,.agg J[p].1.tk.arr] w fun e w'=>(∃ v,e = .returned (.tuple #[.string (ch L J p).1,v,.bool (ch L J p).2.2])/\OwnK w' w.heap.size 9 1 v (cellsN (ch L J p).2.1))/\Below w.heap.size w w'
 mem:∀ L J p,(ch L J p).2.2=true -> ∃ x ∈ L,x.1.nm=(ch L J p).1
 nms:∀ L J p,(ch L J p).2.2=true -> ∀ s ∈ (ch L J p).2.1,∃ x ∈ J,sE x.1.nm s=true
 few:∀ L J p,(ch L J p).2.1.length<=J.length
def outS (T:List Jl × List Ac)(s:ByteArray):List Jl × List Ac:=
 (T.1.set (plJ s T.1).toNat (restX (jl T.1 (plJ s T.1).toNat)),T.2 ++ [(2,(jl T.1 (plJ s T.1).toNat).1.nm,(jl T.1 (plJ s T.1).toNat).1.nd)])
def evK (J:List Jl)(names:List ByteArray) (k:Nat):List Jl × List Ac:=(names.take k).foldl outS (J,[])
def preG (ch:Chs15)(M:List Ml)(J:List Jl) (p:Nat):List Jl × List Ac:=
 if (ch M J p).2.2 then (bindJ (ch M J p).1 p (evK J (ch M J p).2.1 (ch M J p).2.1.length).1,(evK J (ch M J p).2.1 (ch M J p).2.1.length).2 ++ [(1,(jl (evK J (ch M J p).2.1 (ch M J p).2.1.length).1 p).1.nm,(ch M J p).1)]) else (J,[])
def coreB (x:Jl):Jl:=({ x.1 with nd:=⟨#[]⟩ },x.2)
theorem coreB_core {J K:List Jl}(h:J.map coreB=K.map coreB):J.map core=K.map core:=by
 have h1:∀ L:List Jl,L.map core=(L.map coreB).map core:=fun L=>by rw [List.map_map];rfl
 rw [h1 J,h1 K,h]
theorem outS_core (T:List Jl × List Ac)(s:ByteArray):(outS T s).1.map coreB=T.1.map coreB:=map_set_same fun hp=>by rw [jl_at hp];rfl
theorem evK_succ {J:List Jl}{names:List ByteArray}{k:Nat}(hk:k<names.length):evK J names (k+1)=outS (evK J names k) names[k]:=by
 unfold evK;rw [List.take_succ_eq_append_getElem hk,List.foldl_append];rfl
theorem evK_core {J:List Jl}{names:List ByteArray}:∀ k,k<=names.length->(evK J names k).1.map coreB=J.map coreB/\(evK J names k).2.length=k
 | 0,_=>⟨rfl,rfl⟩
 | k+1,hk=>by
  rw [evK_succ (by omega)]
  obtain ⟨h1,h2⟩:=evK_core (J:=J) (names:=names) k (by omega)
  exact ⟨(outS_core _ _).trans h1,by unfold outS;simp [h2]⟩
theorem coreB_at {J K:List Jl}(h:J.map coreB=K.map coreB){p:Nat}(hp:p<J.length)(hk:p<K.length):coreB J[p]=coreB K[p]:=by
 have h1:(J.map coreB)[p]'(by simpa using hp)=(K.map coreB)[p]'(by simpa using hk):=by simp only [h]
 simpa using h1
theorem fnd_none {s:ByteArray}{J:List Jl}(h:fnd s 0 (jbs J) = -1):∀ y ∈ J,¬ sE y.1.nm s=true:=by
 have key:∀ (l:List Jb) (k:Nat),fnd s k l = -1 -> ∀ y ∈ l,¬ sE y.nm s=true:=by
  intro l
  induction l with
  | nil=>intro k _ y hy;cases hy
  | cons j l ih=>
   intro k hk y hy
   unfold fnd at hk
   by_cases h:sE j.nm s=true
   ·rw [if_pos h] at hk;omega
   ·rw [if_neg h] at hk
    rcases List.mem_cons.1 hy with rfl | hy
    ·exact h
    ·exact ih _ hk y hy
 exact fun y hy=>key _ 0 h y.1 (List.mem_map_of_mem hy)
theorem coreB_nm {J K:List Jl}(h:J.map coreB=K.map coreB){s:ByteArray}(hx:∃ x ∈ K,sE x.1.nm s=true):∃ q,∃ hq:q<J.length,plJ s J=(q:Int):=by
 rcases fnd_cases s (jbs J) 0 with hf | ⟨q,hq,he,_⟩
 ·exfalso
  obtain ⟨x,hx,hs⟩:=hx
  obtain ⟨y,hy,e⟩:=core_mem (coreB_core h.symm) hx
  have e1:y.1.nm=x.1.nm:=(congrArg (fun t:Kt=>t.nm) (core_tk e).1)
  exact fnd_none hf y hy (by rw [e1];exact hs)
 ·exact ⟨q,by rw [List.length_map] at hq;exact hq,by unfold plJ;rw [he,Nat.zero_add]⟩
structure Ou (w wr:World) (b g:Nat) (lst:Int)(vM vQ vJ:Value)(S:Sg)(T:List Jl × List Ac)(vN:Value)(names:List ByteArray)(vA:Value):Prop where
 wn:Wn w wr b g vM vQ vJ S lst vM vQ vJ { S with J:=T.1 }
 ac:OwnK wr w.heap.size 64 3 vA (cellsA T.2)
 nm:OwnK wr w.heap.size 9 1 vN (cellsN names)
section
variable {w wr w' w1 w2 w3:World}{b g r n c q:Nat}{lst:Int} {vM vQ vJ vA vN v':Value}{S:Sg}{T:List Jl × List Ac}{names:List ByteArray}
theorem Ou.below (h:Ou w wr b g lst vM vQ vJ S T vN names vA)(hb:Below wr.heap.size wr w'):Ou w w' b g lst vM vQ vJ S T vN names vA:=⟨h.wn.below hb,h.ac.below hb,h.nm.below hb⟩
theorem Ou.turn (h:Ou w wr b g lst vM vQ vJ S T vN names vA)(hq:q<T.1.length)(hg:GrP (fun k=>vJ.ownBlock=some k) wr w1)(hO:OwnK w1 b 66 13 vJ (cellsJ ((jbs T.1).set q T.1[q].1.rest))) :
  Wn w w1 b g vM vQ vJ S lst vM vQ vJ { S with J:=T.1.set q (restX T.1[q]) } /\ OwnK w1 w.heap.size 64 3 vA (cellsA T.2)/\OwnK w1 w.heap.size 9 1 vN (cellsN names):=
 ⟨h.wn.trans (h.wn.gs.oneJ (y:=restX T.1[q]) hq hg hO (JzOk.rest (h.wn.gs.own.zJ T.1[q] (List.getElem_mem hq))) ⟨rfl,rfl,rfl,rfl⟩),h.ac.grp hg fun k hk e=>h.ac.parted h.wn.gs.own.J (by decide) hk e,h.nm.grp hg fun k hk e=>h.nm.parted h.wn.gs.own.J (by decide) hk e⟩
theorem Ou.put {vB:Value}{x:Ac} {J':List Jl}(h:Wn w w1 b g vM vQ vJ S lst vM vQ vJ { S with J:=J' } /\ OwnK w1 w.heap.size 64 3 vA (cellsA T.2)/\OwnK w1 w.heap.size 9 1 vN (cellsN names))(hb:Below w1.heap.size w1 w2)(hO:OwnK w3 w.heap.size 64 3 vB (cellsA T.2 ++ cellsA [x]))(hg:w2.grownBy w3 vA.ownBlock) :
  Ou w w3 b g lst vM vQ vJ S (J',T.2 ++ [x]) vN names vB:=
 ⟨(h.1.below hb).acts (h.2.1.below hb) hg (Nat.le_refl _),by rw [cellsA_append];exact hO,(h.2.2.below hb).grp (GrP.of hg) fun k hk e=>(h.2.2.below hb).parted (h.2.1.below hb) (by decide) hk e⟩
end
section
variable {o:Oper}{a:Act}{w:World}{K:Act->World->Prop}{Q:Exit->Act->World->Prop}
theorem aone15_op (t:Tmp)(m:Ac)(ho:o.op = .buildSlice 34 1 #[(0,.tmp t)])(hx:a.tmps[t]?.getD undef = .agg #[.int .i64 m.1,.string m.2.1,.string m.2.2])(h:∀ g w',g=w.heap.size->w'.heap.size=w.heap.size+1->Bk w' g 64 #[.int .i64 m.1,.string m.2.1,.string m.2.2]->Below w.heap.size w w' -> K (a.put o.dst (.slice (some ⟨g,0,none⟩) 1 1)) w'):o.wp Tryz.prog a w K Q:=by
 unfold Oper.wp execOp
 simp only [ho]
 go_simp
 exact h _ _ rfl (by simp) (Bk.fresh w _ _) ((Below.refl _ _).alloc (Nat.le_refl _) _)
end


theorem preempt_any (ch:Chs15)(hC:Hid (ChoK ch)) (b g p:Nat) (lst:Int)(vM vQ vJ:Value)(S:Sg)(w:World)(hG:Hid (Gs w b g lst vM vQ vJ S))(hM:Hid (Sm S))(hp:p<S.J.length)(hbo:Hid (∀ x ∈ S.J,-4611686018427387904<=x.1.bo/\x.1.bo<=4611686018427387904)) :
  Calls Tryz.prog 171 #[.pointer (some ⟨g,0,none⟩),.int .i64 p] w fun e w'=>(∃ v,e = .returned v/\OwnK w' w.heap.size 64 3 v (cellsA (preG ch S.M S.J p).2))/\Wn w w' b g vM vQ vJ S lst vM vQ vJ { S with J:=(preG ch S.M S.J p).1 }:=by
 obtain ⟨A0,c0,hv,-,-,-,-⟩:=hG.out.own.M.sl
 obtain ⟨N,hN⟩:∃ N,N=S.M.length:=⟨_,rfl⟩
 rw [cellsM_length,List.length_map,<- hN] at hv
 subst hv
 obtain ⟨C,cC,hv,hrd,-,-,-⟩:=hG.out.own.J.sl
 obtain ⟨n,hn⟩:∃ n,n=S.J.length:=⟨_,rfl⟩
 rw [cellsJ_length,List.length_map,<- hn] at hv
 subst hv
 obtain ⟨r,rfl⟩:=hG.out.own.J.at0 (by rw [cellsJ_length,List.length_map];omega)
 have HN:=Lib.hid hN;have HNJ:=Lib.hid hn
 have HNB:Hid (N<=1000):=by show _<=_;rw [hN];exact hM.out.M
 have HJB:Hid (n<=1000):=by show _<=_;rw [hn];exact hM.out.J
 have hpn:p<n:=by rw [hn];exact hp
 have HP:=Lib.hid hp
 obtain ⟨j,hj⟩:∃ j,j=(S.J[p]'hp).1:=⟨_,rfl⟩
 have krg:∀ W,Gs W b g lst (.slice A0 N c0) vQ (.slice (some ⟨r,0,none⟩) n cC) S->W.rangeAt r (p * 13) j.tk.arr.toList:=fun W h=>by
  have h1:=h.own.J.range (p:=p) (by rw [cellsJ_length,List.length_map];exact hp)
  have h2:(cellsJ (jbs S.J))[p]'(by rw [cellsJ_length,List.length_map];exact hp)=j.cells:=by simp [cellsJ,hj]
  rw [h2] at h1
  exact range_tk h1
 obtain ⟨mn,hmn⟩:∃ mn,mn=(ch S.M S.J p).1:=⟨_,rfl⟩
 obtain ⟨names,hnm⟩:∃ names,names=(ch S.M S.J p).2.1:=⟨_,rfl⟩
 obtain ⟨ok,hok⟩:∃ ok,ok=(ch S.M S.J p).2.2:=⟨_,rfl⟩
 have kb:∀ W,Gs W b g lst (.slice A0 N c0) vQ (.slice (some ⟨r,0,none⟩) n cC) S->Calls Tryz.prog 191 #[.slice A0 N c0,.slice (some ⟨r,0,none⟩) n cC,.agg j.tk.arr] W fun e w'=>(∃ v,e = .returned (.tuple #[.string mn,v,.bool ok])/\OwnK w' W.heap.size 9 1 v (cellsN names))/\Below W.heap.size W w':=fun W h=>by
  have:=hC.out.calls A0 N c0 S.M (some ⟨r,0,none⟩) n cC S.J p W hp hN (by have:=HNB.out;omega) h.own.rdMs h.msOk hn (by have:=HJB.out;omega) h.own.rdJs (h.ktOk rfl hp)
  rw [<- hj,<- hmn,<- hok,<- hnm] at this
  exact this
 have hpre:preG ch S.M S.J p=if ok then (bindJ mn p (evK S.J names names.length).1,(evK S.J names names.length).2 ++ [(1,(jl (evK S.J names names.length).1 p).1.nm,mn)]) else (S.J,[]):=by unfold preG;rw [<- hok,<- hnm,<- hmn]
 have hnms:ok=true -> ∀ s ∈ names,∃ x ∈ S.J,sE x.1.nm s=true:=fun e=>by rw [hnm];exact hC.out.nms _ _ _ (by rw [<- hok];exact e)
 have hmem:ok=true->mn.size<=140737488351232:=fun e=>by obtain ⟨x,hx,he⟩:=hC.out.mem S.M S.J p (by rw [<- hok];exact e);rw [hmn,<- he];exact hG.out.own.zM x hx
 have hfew:names.length<=1000:=by rw [hnm];exact Nat.le_trans (hC.out.few _ _ _) hM.out.J
 obtain ⟨R,hR⟩:∃ R,R=preG ch S.M S.J p:=⟨_,rfl⟩
 rw [<- hR]
 rw [<- hR] at hpre
 have KRG:=Lib.hid krg;have KB:=Lib.hid kb;have HPRE:=Lib.hid hpre;have HNMS:=Lib.hid hnms;have HMEM:=Lib.hid hmem;have HFEW:=Lib.hid hfew;have HJE:=Lib.hid hj
 clear krg kb hpre hnms hmem hfew hR hmn hnm hok hN hn hrd hj hM
 go_enter Tryz.func171,Tryz.ntmps171
 go_wp2_with fail
 refine wp_region_held_drew (S:=fun W=>Gs W b g lst (.slice A0 N c0) vQ (.slice (some ⟨r,0,none⟩) n cC) S/\Below w.heap.size w W) (by kernel_rfl) (⟨hG.out.below (Below.drew (Below.refl _ _)),Below.drew (Below.refl _ _)⟩) (fun hS0=>?_)
 refine wU (i:=0) (v:=?_) rfl ?_ hS0 ?_
 rotate_left
 ·intro W _;go_simp;try with_reducible rfl
 try simp only [Act.put,tD,tB,tA,tE,tF]
 refine wU (i:=1) (v:=?_) rfl ?_ hS0 ?_
 rotate_left
 ·intro W _;go_simp;try with_reducible rfl
 try simp only [Act.put,tZ]
 refine wU (i:=2) (v:=?_) rfl ?_ hS0 ?_
 rotate_left
 ·intro W _;go_simp;try with_reducible rfl
 try simp only [Act.put,tZ]
 refine wU (i:=3) (v:=?_) rfl ?_ hS0 ?_
 rotate_left
 ·intro W hSW;have hx:=hSW.1.bk.cellAt 2;go_simp;try with_reducible rfl
 try simp only [Act.put,tZ]
 refine wU (i:=4) (v:=?_) rfl ?_ hS0 ?_
 rotate_left
 ·intro W _;go_simp;try with_reducible rfl
 try simp only [Act.put,tZ]
 refine wU (i:=5) (v:=?_) rfl ?_ hS0 ?_
 rotate_left
 ·intro W _;go_simp;try with_reducible rfl
 try simp only [Act.put,tZ]
 refine wU (i:=6) (v:=?_) rfl ?_ hS0 ?_
 rotate_left
 ·intro W _;go_simp;try with_reducible rfl
 try simp only [Act.put,tZ]
 refine wU (i:=7) (v:=?_) rfl ?_ hS0 ?_
 rotate_left
 ·intro W hSW;have hx:=hSW.1.bk.cellAt 4;go_simp;try with_reducible rfl
 try simp only [Act.put,tZ]
 refine wU (i:=8) (v:=?_) rfl ?_ hS0 ?_
 rotate_left
 ·intro W _;go_simp;try with_reducible rfl
 try simp only [Act.put,tZ]
 refine wU (i:=9) (v:=?_) rfl ?_ hS0 ?_
 rotate_left
 ·intro W _;go_simp;try with_reducible rfl
 try simp only [Act.put,tZ]
 refine wU (i:=10) (v:=?_) rfl ?_ hS0 ?_
 rotate_left
 ·intro W _;go_simp;try with_reducible rfl
 try simp only [Act.put,tZ]
 refine wU (i:=11) (v:=?_) rfl ?_ hS0 ?_
 rotate_left
 ·intro W hSW;have hx:=hSW.1.bk.cellAt 4;go_simp;try with_reducible rfl
 try simp only [Act.put,tZ]
 refine wU (i:=12) (v:=?_) rfl ?_ hS0 ?_
 rotate_left
 ·intro W _;go_simp;try with_reducible rfl
 try simp only [Act.put,tZ]
 refine wU (i:=13) (v:=?_) rfl ?_ hS0 ?_
 rotate_left
 ·intro W _;go_simp;try with_reducible rfl
 try simp only [Act.put,tZ]
 refine wU (i:=14) (v:=?_) rfl ?_ hS0 ?_
 rotate_left
 ·intro W _;go_simp;try with_reducible rfl
 try simp only [Act.put,tZ]
 refine wT (i:=15) (v:=.agg j.tk.arr) rfl (yields_rg (by rfl) 47 _ rfl r (p * 13) rfl j.tk.arr _ (fun W hW=>KRG.out W hW.1) Tryz.underlying47 rfl (by kernel_rfl)) hS0 ?_
 try simp only [Act.put,tZ]
 refine wpAnyH_ready (rs:=[16]) (by kernel_rfl) (by simp) ?_
 refine AllReadyH.cons rfl (fun K hK=>?_) AllReadyH.nil
 go_simp
 refine (KB.out _ hS0.1).mono ?_
 rintro e w1 ⟨⟨vN,rfl,hN1⟩,hb1⟩
 go_simp
 refine hK.out _ _ (⟨hS0.1.below hb1,hS0.2.trans (hb1.mono hS0.2.size)⟩) (fun hS1=>?_)
 clear hK K
 try simp only [Act.put,tZ]
 refine wU (i:=17) (v:=?_) rfl ?_ hS1 ?_
 rotate_left
 ·intro W _;go_simp;try with_reducible rfl
 try simp only [Act.put,tZ]
 refine wU (i:=18) (v:=?_) rfl ?_ hS1 ?_
 rotate_left
 ·intro W _;go_simp;try with_reducible rfl
 try simp only [Act.put,tZ]
 refine wU (i:=21) (v:=?_) rfl ?_ hS1 ?_
 rotate_left
 ·intro W _;go_simp;try with_reducible rfl
 try simp only [Act.put,tZ]
 refine wU (i:=19) (v:=?_) rfl ?_ hS1 ?_
 rotate_left
 ·intro W _;go_simp;try with_reducible rfl
 try simp only [Act.put,tZ]
 refine wU (i:=22) (v:=?_) rfl ?_ hS1 ?_
 rotate_left
 ·intro W _;go_simp;try with_reducible rfl
 try simp only [Act.put,tZ]
 refine wU (i:=20) (v:=?_) rfl ?_ hS1 ?_
 rotate_left
 ·intro W _;go_simp;try with_reducible rfl
 try simp only [Act.put,tZ]
 refine wU (i:=23) (v:=?_) rfl ?_ hS1 ?_
 rotate_left
 ·intro W _;go_simp;try with_reducible rfl
 try simp only [Act.put,tZ]
 refine wpAnyH_done (by kernel_rfl) ?_ _
 have HG1:=Lib.hid hS1.1;have HBE1:=Lib.hid hS1.2
 have HN1:Hid (OwnK w1 w.heap.size 9 1 vN (cellsN names)):=hN1
 clear hS0 hS1 hN1 hb1
 cases ok
 case false=>
  have HR:Hid (R=(S.J,[])):=HPRE.out
  go_wp2_with fail
  go_ret
  rw [HR.out]
  exact ⟨⟨_,rfl,OwnK.nil _ _ _ _⟩,Wn.first hG.out HBE1.out⟩
 case true=>
  have hn1:=HNMS.out rfl
  have hm1:=HMEM.out rfl
  clear HNMS HMEM
  have HNMS:=Lib.hid hn1;have HMEM:=Lib.hid hm1
  clear hn1 hm1
  have HR:Hid (R=(bindJ mn p (evK S.J names names.length).1,(evK S.J names names.length).2 ++ [(1,(jl (evK S.J names names.length).1 p).1.nm,mn)])):=HPRE.out
  obtain ⟨An,cn,hvN,-,-,-,-⟩:=HN1.out.sl
  obtain ⟨nn,hnn⟩:∃ nn,nn=names.length:=⟨_,rfl⟩
  rw [show (cellsN names).length=names.length by simp [cellsN],<- hnn] at hvN
  subst hvN
  have HNN:=Lib.hid hnn
  have H0:Hid (Ou w w1 b g lst (.slice A0 N c0) vQ (.slice (some ⟨r,0,none⟩) n cC) S (evK S.J names 0) (.slice An nn cn) names (.slice none 0 0)):=⟨Wn.first hG.out HBE1.out,OwnK.nil _ _ _ _,HN1.out⟩
  clear HPRE hnn HN1
  go_wp2_with fail
  go_loopw [8,36] (fun s8 s36 wr=>∃ (k:Nat),k<=nn/\s36 = .int .i64 k/\Hid (Ou w wr b g lst (.slice A0 N c0) vQ (.slice (some ⟨r,0,none⟩) n cC) S (evK S.J names k) (.slice An nn cn) names s8)) (fun s8 s36 wr=>nn - (intOf s36).toNat)
  case atStart=>exact ⟨0,Nat.zero_le _,rfl,H0⟩
  case round=>
   clear H0
   obtain ⟨k,hk,rfl,H⟩:=hrel
   by_cases hlt:k<nn
   ·have hkl:k<names.length:=by rw [<- HNN.out];exact hlt
    obtain ⟨s,hs⟩:∃ s,s=names[k]:=⟨_,rfl⟩
    obtain ⟨T,hT⟩:∃ T,T=evK S.J names k:=⟨_,rfl⟩
    have hsu:=evK_succ (J:=S.J) hkl
    rw [<- hT,<- hs] at hsu
    rw [<- hT] at H
    have hco:=evK_core (J:=S.J) (names:=names) k (Nat.le_of_lt hkl)
    rw [<- hT] at hco
    obtain ⟨q,hql,hq⟩:=coreB_nm hco.1 (HNMS.out s (by rw [hs];exact List.getElem_mem hkl))
    have HQL:=Lib.hid hql
    have hTl:T.1.length=n:=by have:=congrArg List.length hco.1;rw [List.length_map,List.length_map] at this;rw [this];exact HNJ.out.symm
    have hqn:q<n:=by rw [<- hTl];exact hql
    have HSU:Hid (evK S.J names (k+1)=(T.1.set q (restX T.1[q]),T.2 ++ [(2,T.1[q].1.nm,T.1[q].1.nd)])):=by show _=_;rw [hsu];unfold outS;rw [hq,Int.toNat_natCast,jl_at hql];rfl
    have HJQ:Hid ((jbs T.1)[q]'(by rw [List.length_map];exact hql)=(T.1[q]'HQL.out).1):=by show _=_;simp [jbs]
    have HAL:Hid ((cellsA T.2).length+(cellsA [(2,(T.1[q]'HQL.out).1.nm,(T.1[q]'HQL.out).1.nd)]).length<=maxLen/\((cellsA T.2).length+(cellsA [(2,(T.1[q]'HQL.out).1.nm,(T.1[q]'HQL.out).1.nd)]).length) * 40<=140737488355328):=by
     show _/\_
     rw [cellsA_length,cellsA_length,hco.2,List.length_singleton]
     have h1:=HFEW.out
     exact ⟨by simp only [maxLen];omega,by omega⟩
    have KF:=Lib.hid (fun (W:World)(h:Gs W b g lst (.slice A0 N c0) vQ (.slice (some ⟨r,0,none⟩) n cC) { S with J:=T.1 })=>find_any (some ⟨r,0,none⟩) n cC (jbs T.1) s W (show n=_ by rw [List.length_map];exact hTl.symm) (by have:=HJB.out;omega) h.own.rdJs (q:Int) hq)
    have hrn:RdK wr 1 An (cellsN names):=by
     obtain ⟨A',c',hv',hr',-,-,-⟩:=H.out.nm.sl
     injection hv' with e1;subst e1;exact hr'
    obtain ⟨gu,ou,rfl,hcu⟩:=hrn k [.string s] (by rw [hs];simp [cellsN,hkl])
    have hcu:wr.cell? ⟨gu,ou+k,none⟩=some (.string s):=by have:=hcu 0 _ rfl;rw [Nat.mul_one] at this;exact this
    have hwk:Hid (wrap64 ((k:Int)+1)=((k+1:Nat):Int)):=by have:=HFEW.out;show _=_;unfold wrap64;omega
    have HD:=Lib.hid (H.out.below (w':=wr.drew) (Below.drew (Below.refl _ _)))
    clear hkl hs hT hsu hco hq hTl hrn H
    go_wp2_with fail
    refine wp_region_held_drew (S:=fun W=>Bk W g 73 #[.int .i64 S.ck,.int .i64 lst,.slice A0 N c0,vQ,.slice (some ⟨r,0,none⟩) n cC]) (by kernel_rfl) (HD.out.wn.gs.bk) (fun hS0=>?_)
    refine wU (i:=0) (v:=?_) rfl ?_ hS0 ?_
    rotate_left
    ·intro W _;go_simp;try with_reducible rfl
    try simp only [Act.put,tD,tB,tA,tE,tF]
    refine wU (i:=1) (v:=?_) rfl ?_ hS0 ?_
    rotate_left
    ·intro W _;go_simp;try with_reducible rfl
    try simp only [Act.put,tZ]
    refine wU (i:=2) (v:=?_) rfl ?_ hS0 ?_
    rotate_left
    ·intro W _;go_simp;try with_reducible rfl
    try simp only [Act.put,tZ]
    refine wU (i:=3) (v:=?_) rfl ?_ hS0 ?_
    rotate_left
    ·intro W _;go_simp;try with_reducible rfl
    try simp only [Act.put,tZ]
    refine wU (i:=4) (v:=?_) rfl ?_ hS0 ?_
    rotate_left
    ·intro W hSW;have hx:=hSW.cellAt 4;go_simp;try with_reducible rfl
    try simp only [Act.put,tZ]
    refine wU (i:=5) (v:=?_) rfl ?_ hS0 ?_
    rotate_left
    ·intro W _;go_simp;try with_reducible rfl
    try simp only [Act.put,tZ]
    refine wU (i:=6) (v:=?_) rfl ?_ hS0 ?_
    rotate_left
    ·intro W _;go_simp;try with_reducible rfl
    try simp only [Act.put,tZ]
    refine wU (i:=7) (v:=?_) rfl ?_ hS0 ?_
    rotate_left
    ·intro W _;go_simp;try with_reducible rfl
    try simp only [Act.put,tZ]
    refine wU (i:=8) (v:=?_) rfl ?_ hS0 ?_
    rotate_left
    ·intro W hSW;have hx:=hSW.cellAt 4;go_simp;try with_reducible rfl
    try simp only [Act.put,tZ]
    refine wU (i:=9) (v:=?_) rfl ?_ hS0 ?_
    rotate_left
    ·intro W _;go_simp;try with_reducible rfl
    try simp only [Act.put,tZ]
    refine wpAnyH_ready (rs:=[10]) (by kernel_rfl) (by simp) ?_
    refine AllReadyH.cons rfl (fun K hK=>?_) AllReadyH.nil
    go_simp
    refine (KF.out _ HD.out.wn.gs).mono ?_
    rintro e w3 ⟨rfl,hb3⟩
    have HD3:=Lib.hid (HD.out.below hb3)
    clear hb3
    go_simp
    refine hK.out _ _ (HD3.out.wn.gs.bk) (fun hS1=>?_)
    clear hK K
    try simp only [Act.put,tZ]
    refine wU (i:=11) (v:=?_) rfl ?_ hS1 ?_
    rotate_left
    ·intro W _;go_simp;try with_reducible rfl
    try simp only [Act.put,tZ]
    refine wpAnyH_ready (rs:=[12]) (by kernel_rfl) (by simp) ?_
    refine AllReadyH.cons rfl (fun K hK=>?_) AllReadyH.nil
    go_simp
    refine (unbind_any b r n cC q 2 (jbs T.1) w3 (by rw [List.length_map];exact HQL.out) (Lib.hid HD3.out.wn.gs.own.J)).mono ?_
    rintro e w5 ⟨rfl,hO5,hg5⟩
    rw [HJQ.out] at hO5 ⊢
    have HD5:=Lib.hid (HD3.out.turn HQL.out (hg5.wide fun k _ e=>by rw [e];rfl) hO5)
    clear hO5 hg5
    go_simp
    refine hK.out _ _ (HD5.out.1.gs.bk) (fun hS2=>?_)
    clear hK K
    try simp only [Act.put,tZ]
    refine wpAnyH_ready (rs:=[13]) (by kernel_rfl) (by simp) ?_
    refine AllReadyH.cons rfl (fun K hK=>?_) AllReadyH.nil
    rw [if_pos (by rfl)]
    refine aone15_op 52 (2,(T.1[q]'HQL.out).1.nm,(T.1[q]'HQL.out).1.nd) rfl rfl ?_
    intro g6 w6 hg6 hs6 hB6 hb6
    have HB6:=Lib.hid hB6;have HBE6:=Lib.hid hb6
    clear hB6 hb6 hg6 hs6
    refine hK.out _ _ (HD5.out.1.gs.bk.later HBE6.out) (fun hS3=>?_)
    clear hK K
    try simp only [Act.put,tZ]
    refine wpAnyH_ready (rs:=[14]) (by kernel_rfl) (by simp) ?_
    refine AllReadyH.cons rfl (fun K hK=>?_) AllReadyH.nil
    rw [if_pos (by rfl)]
    refine append15_op _ (.tmp 40) (.tmp 53) 34 rfl w.heap.size 64 _ 3 40 Tryz.underlying34 infoA15 rfl (by omega) u8 (cellsA T.2) rfl (HD5.out.2.1.below HBE6.out) ⟨g6,0,none⟩ 1 1 (cellsA [(2,(T.1[q]'HQL.out).1.nm,(T.1[q]'HQL.out).1.nd)]) rfl (rdA1 HB6.out) (cellsA_k _) (cellsA_one _) rfl (HAL.out.1) (HAL.out.2) (Nat.le_trans HD5.out.1.gr.size HBE6.out.size) ?_
    intro v7 w7 hO7 hg7 _
    have H7:Hid (Ou w w7 b g lst (.slice A0 N c0) vQ (.slice (some ⟨r,0,none⟩) n cC) S (evK S.J names (k+1)) (.slice (some ⟨gu,ou,none⟩) nn cn) names v7):=by
     rw [HSU.out]
     exact Ou.put HD5.out HBE6.out hO7 hg7
    clear hO7 hg7
    refine hK.out _ _ (H7.out.wn.gs.bk) (fun hS4=>?_)
    clear hK K
    try simp only [Act.put,tZ]
    refine wU (i:=15) (v:=?_) rfl ?_ hS4 ?_
    rotate_left
    ·intro W _;go_simp;try with_reducible rfl
    try simp only [Act.put,tZ]
    refine wpAnyH_done (by kernel_rfl) ?_ _
    clear hS0 hS1 hS2 hS3 hS4 HD HD3 HD5 HB6 HBE6 hcu
    have hwk:=hwk.out
    go_wp2_with fail
    go_round
    case rel=>exact ⟨k+1,hlt,by go_num,H7⟩
    case measure=>rw [hwk];show nn - ((k+1:Nat):Int).toNat<nn - (k:Int).toNat;rw [Int.toNat_natCast,Int.toNat_natCast];exact Nat.sub_lt_sub_left hlt (Nat.lt_succ_self k)
   ·have hkn:k=nn:=by omega
    obtain ⟨T,hT⟩:∃ T,T=evK S.J names k:=⟨_,rfl⟩
    have hTn:T=evK S.J names names.length:=by rw [hT,hkn,HNN.out]
    rw [<- hT] at H
    have hco:=evK_core (J:=S.J) (names:=names) k (by rw [<- HNN.out];exact hk)
    rw [<- hT] at hco
    have hTl:T.1.length=S.J.length:=by have:=congrArg List.length hco.1;rw [List.length_map,List.length_map] at this;exact this
    have hpT:p<T.1.length:=by rw [hTl];exact HP.out
    have HPT:=Lib.hid hpT
    have hcb:=coreB_at hco.1 hpT HP.out
    have hbT:T.1[p].1.bo=S.J[p].1.bo:=by have h:=congrArg (fun x:Jl=>x.1.bo) hcb;exact h
    rw [<- hTn] at HR
    have HR1:Hid (R=(T.1.set p (goX mn (T.1[p]'HPT.out)),T.2 ++ [(1,(T.1[p]'HPT.out).1.nm,mn)])):=by show _=_;rw [HR.out];unfold bindJ;rw [jl_at hpT]
    have HJQ:Hid ((jbs T.1)[p]'(by rw [List.length_map];exact hpT)=(T.1[p]'HPT.out).1):=by show _=_;simp [jbs]
    have hbb:-4611686018427387904<=(T.1[p]'HPT.out).1.bo/\(T.1[p]'HPT.out).1.bo<=4611686018427387904:=by have h:=hbo.out _ (List.getElem_mem HP.out);exact ⟨Int.le_trans h.1 (Int.le_of_eq hbT.symm),Int.le_trans (Int.le_of_eq hbT) h.2⟩
    have KU:=Lib.hid (bind_any b r n cC p mn (jbs T.1) wr (by rw [List.length_map];exact hpT) (by rw [HJQ.out];exact hbb) (Lib.hid H.out.wn.gs.own.J))
    rw [HJQ.out] at KU
    have HAL:Hid ((cellsA T.2).length+(cellsA [(1,(T.1[p]'HPT.out).1.nm,mn)]).length<=maxLen/\((cellsA T.2).length+(cellsA [(1,(T.1[p]'HPT.out).1.nm,mn)]).length) * 40<=140737488355328):=by
     show _/\_
     rw [cellsA_length,cellsA_length,hco.2,List.length_singleton]
     have h1:=HFEW.out;have h2:=HNN.out
     exact ⟨by simp only [maxLen];omega,by omega⟩
    have c4:wr.cell? ⟨g,4,none⟩=some (.slice (some ⟨r,0,none⟩) n cC):=H.out.wn.gs.bk.cellAt 4
    clear hT hTn hco hTl hcb hbT hbb HR hk hlt
    go_wp2_with fail
    refine KU.out.mono ?_;rintro e w6 ⟨rfl,hO6,hg6⟩
    have hgj:GrP (fun k=>(Value.slice (some ⟨r,0,none⟩) n cC).ownBlock=some k) wr w6:=hg6.wide fun k _ e=>by rw [e];rfl
    have HW6:=Lib.hid (H.out.wn.trans (H.out.wn.gs.oneJ (y:=goX mn (T.1[p]'HPT.out)) HPT.out hgj hO6 (JzOk.go (H.out.wn.gs.own.zJ _ (List.getElem_mem HPT.out)) HMEM.out) ⟨rfl,rfl,rfl,rfl⟩))
    have HA6:Hid (OwnK w6 w.heap.size 64 3 u8 (cellsA T.2)):=H.out.ac.grp hgj fun k hk e=>H.out.ac.parted H.out.wn.gs.own.J (by decide) hk e
    have HSZ:Hid (w.heap.size<=w6.heap.size):=HW6.out.gr.size
    clear hO6 hg6 hgj KU c4 H
    go_wp2_with ((with_reducible refine append_ka _ rfl (.tmp 56) (.tmp 65) 34 rfl w.heap.size 64 _ 3 40 Tryz.underlying34 infoA15 rfl (by omega) u8 (cellsA T.2) rfl (HA6.out.alloc _) ⟨w6.heap.size,0,none⟩ 1 1 (cellsA [(1,(T.1[p]'HPT.out).1.nm,mn)]) rfl (rdA1 (x:=(1,(T.1[p]'HPT.out).1.nm,mn)) (Bk.fresh _ _ _)) (cellsA_k _) (cellsA_one _) rfl HAL.out.1 HAL.out.2 (by have:=HSZ.out;rw [World.size_alloc];omega) ?_);intro v7 w7 hO7 hg7 hat7;clear hat7)
    go_ret
    rw [HR1.out]
    exact ⟨⟨v7,rfl,by rw [cellsA_append];exact hO7⟩,(HW6.out.below ((Below.refl _ _).alloc (Nat.le_refl _) _)).acts (HA6.out.alloc _) hg7 (Nat.le_refl _)⟩
end
end Go.Proofs.YtccccbofcnmdiaaGreat
