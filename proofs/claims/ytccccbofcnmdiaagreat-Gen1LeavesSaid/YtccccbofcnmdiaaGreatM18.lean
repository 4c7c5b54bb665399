/- Lemmas that the law stands on. No condition. -/
import Derived.Test.YtccccbofcnmdiaaGreatM17
namespace Go.Proofs.YtccccbofcnmdiaaGreat
set_option linter.unusedSimpArgs false
set_option linter.unusedVariables false
set_option maxRecDepth 100000
set_option maxHeartbeats 51200000
section
open Go.RowKit
theorem OwnK.at0 {w:World} {b k n c:Nat} {e:TypeId} {A:Option Addr} {l:List (List Value)} (h:OwnK w b e k (.slice A n c) l) (hl:0<l.length):∃ r,A=some ⟨r,0,none⟩:=by
 rcases h.2.2 with ⟨hv,h0⟩ | ⟨g,cap,cur,hv,_⟩
 ·rw [h0] at hl;exact absurd hl (by simp)
 ·injection hv with e;exact ⟨g,e⟩
theorem rdA1 {w:World} {g:Nat} {t:TypeId} {x:Ac} (h:Bk w g t #[.int .i64 x.1,.string x.2.1,.string x.2.2]):RdK w 3 (some ⟨g,0,none⟩) (cellsA [x]):=fun i y hy=>by
 match i,hy with
 | 0,hy=>simp [cellsA] at hy;subst hy;exact ⟨g,0,rfl,h.range (Part.whole _)⟩
 | i+1,hy=>simp [cellsA] at hy
theorem jbs_relK {s:ByteArray} {J:List Jl} {k:Nat} (h:k<J.length):(jbs (relK s J k))[k]'(by rw [List.length_map,relK_length];exact h)=J[k].1:=by
 simp only [jbs,List.getElem_map]
 rw [relK_at h]
theorem JzOk.rest {x:Jl} (h:JzOk x):JzOk (restX x):=⟨h.1,h.2.1,h.2.2.1,h.2.2.2.1,(show (⟨#[]⟩:ByteArray).size<=_ from by decide)⟩
structure Rl (w wr:World) (b g:Nat) (lst:Int) (vM vQ vJ:Value) (S:Sg) (s:ByteArray) (k:Nat) (vA:Value):Prop where
 wn:Wn w wr b g vM vQ vJ S lst vM vQ vJ { S with J:=relK s S.J k }
 ac:OwnK wr w.heap.size 64 3 vA (cellsA (relA s (S.J.take k)))
section
variable {w wr w1 w2 w3:World} {b g k:Nat} {lst:Int} {vM vQ vJ vA vB:Value} {S:Sg} {s:ByteArray}
theorem Rl.zero (h:Gs w b g lst vM vQ vJ S):Rl w w b g lst vM vQ vJ S s 0 (.slice none 0 0):=
 ⟨by rw [relK_zero];exact Wn.refl h,by rw [relA_zero];exact OwnK.nil _ _ _ _⟩
theorem Rl.skip (h:Rl w wr b g lst vM vQ vJ S s k vA) (hk:k<S.J.length) (he:sE S.J[k].1.nd s=false):Rl w wr b g lst vM vQ vJ S s (k+1) vA:=
 ⟨by rw [relK_skip hk he];exact h.wn,by rw [relA_skip hk he];exact h.ac⟩
theorem Rl.turn (h:Rl w wr b g lst vM vQ vJ S s k vA) (hk:k<S.J.length) (he:sE S.J[k].1.nd s=true) (hg:GrP (fun k=>vJ.ownBlock=some k) wr w1) (hO:OwnK w1 b 66 13 vJ (cellsJ ((jbs (relK s S.J k)).set k (S.J[k].1.rest)))) :
  Wn w w1 b g vM vQ vJ S lst vM vQ vJ { S with J:=relK s S.J (k+1) } /\ OwnK w1 w.heap.size 64 3 vA (cellsA (relA s (S.J.take k))):=by
 refine ⟨h.wn.trans ?_,h.ac.grp hg fun q hq e=>h.ac.parted h.wn.gs.own.J (by decide) hq e⟩
 have hkl:k<(relK s S.J k).length:=by rw [relK_length];exact hk
 have h1:=h.wn.gs.oneJ (p:=k) (y:=restX S.J[k]) hkl hg hO (by have:=h.wn.gs.own.zJ (relK s S.J k)[k] (List.getElem_mem hkl);rw [relK_at hk] at this;exact JzOk.rest this) (by simp only [relK_at hk];exact ⟨rfl,rfl,rfl,rfl⟩)
 rw [relK_turn hk he]
 exact h1
theorem Rl.put (h:Wn w w1 b g vM vQ vJ S lst vM vQ vJ { S with J:=relK s S.J (k+1) }) (hA:OwnK w2 w.heap.size 64 3 vA (cellsA (relA s (S.J.take k)))) (hb:Below w1.heap.size w1 w2) (hk:k<S.J.length) (he:sE S.J[k].1.nd s=true)
  (hO:OwnK w3 w.heap.size 64 3 vB (cellsA (relA s (S.J.take k)) ++ cellsA [(3,S.J[k].1.nm,S.J[k].1.nd)])) (hg:w2.grownBy w3 vA.ownBlock):Rl w w3 b g lst vM vQ vJ S s (k+1) vB:=
 ⟨(h.below hb).acts hA hg (Nat.le_refl _),by rw [relA_turn hk he,cellsA_append];exact hO⟩
end


theorem release_any (b g:Nat) (lst:Int) (vM vQ vJ:Value) (S:Sg) (s:ByteArray) (w:World) (hG:Hid (Gs w b g lst vM vQ vJ S)) (hM:S.J.length<=1000) :
  Calls Tryz.prog 126 #[.pointer (some ⟨g,0,none⟩),.string s] w fun e w'=>(∃ v,e = .returned v/\OwnK w' w.heap.size 64 3 v (cellsA (relA s S.J)))/\Wn w w' b g vM vQ vJ S lst vM vQ vJ { S with J:=relJ s S.J }:=by
 obtain ⟨C,cC,hv,_,h1,_,_⟩:=hG.out.own.J.sl
 obtain ⟨n,hn⟩:∃ n,n=S.J.length:=⟨_,rfl⟩
 rw [cellsJ_length,List.length_map,<- hn] at hv h1
 subst hv
 have hnb:n<=1000:=by rw [hn];exact hM
 have HN:=Lib.hid hn;have HNB:=Lib.hid hnb
 have H0:Hid (Rl w w b g lst vM vQ (.slice C n cC) S s 0 (.slice none 0 0)):=Rl.zero hG.out
 have c4:w.cell? ⟨g,4,none⟩=some (.slice C n cC):=hG.out.bk.cellAt 4
 clear hn hM hnb h1
 go_enter Tryz.func126,Tryz.ntmps126
 go_wp2_with fail
 clear c4
 go_loopw [5,12] (fun s5 s12 wr=>∃ (k:Nat),k<=n/\s12 = .int .i64 k/\Hid (Rl w wr b g lst vM vQ (.slice C n cC) S s k s5)) (fun s5 s12 wr=>n - (intOf s12).toNat)
 case atStart=>exact ⟨0,Nat.zero_le _,rfl,H0⟩
 case round=>
  clear H0
  obtain ⟨k,hk,rfl,H⟩:=hrel
  by_cases hlt:k<n
  ·have hkl:Hid (k<S.J.length):=by show k<S.J.length;rw [<- HN.out];exact hlt
   obtain ⟨r,rfl⟩:=H.out.wn.gs.own.J.at0 (by rw [cellsJ_length,List.length_map,show ({ S with J:=relK s S.J k }:Sg).J.length=S.J.length from relK_length];exact Nat.lt_of_le_of_lt (Nat.zero_le _) hkl.out)
   obtain ⟨nd,hnd⟩:∃ nd,nd=(S.J[k]'hkl.out).1.nd:=⟨_,rfl⟩
   obtain ⟨nm,hnm⟩:∃ nm,nm=(S.J[k]'hkl.out).1.nm:=⟨_,rfl⟩
   have hlk:k<(jbs (relK s S.J k)).length:=by rw [List.length_map,relK_length];exact hkl.out
   have hwk:wrap64 ((k:Int)+1)=((k+1:Nat):Int):=by have:=HNB.out;unfold wrap64;omega
   have c4:wr.cell? ⟨g,4,none⟩=some (.slice (some ⟨r,0,none⟩) n cC):=H.out.wn.gs.bk.cellAt 4
   have cnd:wr.cell? ⟨r,k * 13+11,none⟩=some (.string nd):=by rw [hnd,<- jbs_relK (s:=s) hkl.out];exact H.out.wn.gs.own.J.jobAt hlk (j:=11) rfl
   cases he:sE nd s
   case false=>
    have H1:Hid (Rl w wr b g lst vM vQ (.slice (some ⟨r,0,none⟩) n cC) S s (k+1) u5):=H.out.skip hkl.out (by rw [<- hnd];exact he)
    have he':(nd.toList == s.toList)=false:=he
    clear he H hnd hnm hlk
    go_wp2_with fail
    go_round
    case rel=>exact ⟨k+1,by omega,by go_num,H1⟩
    case measure=>rw [hwk];show n - ((k+1:Nat):Int).toNat<n - (k:Int).toNat;rw [Int.toNat_natCast,Int.toNat_natCast];omega
   case true=>
    have he':(nd.toList == s.toList)=true:=he
    have HE:Hid (sE (S.J[k]'hkl.out).1.nd s=true):=by show _=_;rw [<- hnd];exact he
    have hu:∀ W,OwnK W b 66 13 (.slice (some ⟨r,0,none⟩) n cC) (cellsJ (jbs (relK s S.J k)))->Calls Tryz.prog 132 #[.pointer (some ⟨r,k * 13,none⟩),.int .i64 3] W fun e w'=>e = .returned (.agg #[.int .i64 3,.string nm,.string nd])/\OwnK w' b 66 13 (.slice (some ⟨r,0,none⟩) n cC) (cellsJ ((jbs (relK s S.J k)).set k (S.J[k]'hkl.out).1.rest))/\GrP (fun k=>k=r) W w':=fun W h=>by
     have:=unbind_any b r n cC k 3 (jbs (relK s S.J k)) W hlk h
     rw [jbs_relK hkl.out,<- hnd,<- hnm] at this
     exact this
    have HU:=Lib.hid hu;have HND:=Lib.hid hnd;have HNM:=Lib.hid hnm
    have HLA:Hid ((cellsA (relA s (S.J.take k))).length<=1000):=by show _<=1000;rw [cellsA_length];exact Nat.le_trans relA_le (by rw [<- HN.out];exact HNB.out)
    clear he hu hnd hnm hlk
    go_wp2_with fail
    refine (HU.out _ H.out.wn.gs.own.J).mono ?_;rintro e w1 ⟨rfl,hO1,hg1⟩
    have hT:=H.out.turn hkl.out HE.out (hg1.wide fun q _ e=>by rw [e];rfl) hO1
    have HT1:=Lib.hid hT.1;have HT2:=Lib.hid hT.2
    have HSZ:Hid (w.heap.size<=w1.heap.size):=hT.1.gr.size
    clear hO1 hg1 hT H HU c4 cnd
    go_wp2_with ((with_reducible refine append_ka _ rfl (.tmp 25) (.tmp 33) 34 rfl w.heap.size 64 _ 3 40 Tryz.underlying34 infoA15 rfl (by omega) u5 (cellsA (relA s (S.J.take k))) rfl (HT2.out.alloc _) ⟨w1.heap.size,0,none⟩ 1 1 (cellsA [(3,nm,nd)]) rfl (rdA1 (x:=(3,nm,nd)) (Bk.fresh _ _ _)) (cellsA_k _) (cellsA_one _) rfl (by have:=HLA.out;rw [cellsA_length [(3,nm,nd)]];simp [maxLen];omega) (by have:=HLA.out;rw [cellsA_length [(3,nm,nd)]];simp;omega) (by have:=HSZ.out;simp;omega) ?_);intro v3 w3 hO3 hg3 hat3;clear hat3;have H3:Hid (Rl w w3 b g lst vM vQ (.slice (some ⟨r,0,none⟩) n cC) S s (k+1) v3):=Rl.put HT1.out (HT2.out.alloc _) ((Below.refl _ _).alloc (Nat.le_refl _) _) hkl.out HE.out (by rw [<- HND.out,<- HNM.out];exact hO3) hg3;clear hO3 hg3)
    clear HT1 HT2 HND HNM
    go_round
    case rel=>exact ⟨k+1,by omega,by go_num,H3⟩
    case measure=>rw [hwk];show n - ((k+1:Nat):Int).toNat<n - (k:Int).toNat;rw [Int.toNat_natCast,Int.toNat_natCast];omega
  ·have hkn:k=n:=by omega
   subst hkn
   have HF:Hid ((OwnK wr w.heap.size 64 3 u5 (cellsA (relA s S.J)))/\Wn w wr b g vM vQ (.slice C k cC) S lst vM vQ (.slice C k cC) { S with J:=relJ s S.J }):=by
    have h1:=H.out.wn;have h2:=H.out.ac
    rw [HN.out,relK_all,<- HN.out] at h1
    rw [HN.out,List.take_length] at h2
    exact ⟨h2,h1⟩
   clear H hk hlt
   go_wp2_with fail
   go_ret
   exact ⟨⟨u5,rfl,HF.out.1⟩,HF.out.2⟩
end
section
open Go.RowKit

theorem result_ok (a b c:Int) (w:World) (h:rB a b c=true) :
  Calls Tryz.prog 110 #[.agg #[.int .i64 a,.int .i64 b,.int .i64 c]] w fun e w'=>e = .returned (.tuple #[.agg #[.int .i64 a,.int .i64 b,.int .i64 c],.int .i64 0])/\Below w.heap.size w w':=by
 go_enter Tryz.func110,Tryz.ntmps110
 go_wp2_with (go_at_call 109;refine (right_any _ _ _ _).mono ?_;rintro e w1 ⟨rfl,hb1⟩;obtain ⟨hc1,hf1⟩:=bcell hb1;have hz1a:w.heap.size<w1.heap.size:=(by have h:=hb1.size;(try simp only [World.size_alloc,World.size_setCell,World.size_drew] at h);omega);have hz1b:w.heap.size+1<w1.heap.size:=(by have h:=hb1.size;(try simp only [World.size_alloc,World.size_setCell,World.size_drew] at h);omega))
 exact bodyPost_ret (v:=.tuple #[.agg #[.int .i64 a,.int .i64 b,.int .i64 c],.int .i64 0]) (by simp [results,Tryz.results110,go_sem,hc1,hz1a,hz1b]) rfl ⟨rfl,by (repeat' (first | (with_reducible exact Below.refl _ _) | (with_reducible refine Below.drew ?_) | (with_reducible refine Below.setCell ?_ ?_ _) | (with_reducible refine Below.alloc ?_ ?_ _) | (with_reducible refine Below.trans ?_ (Below.mono hb1 ?_)) | go_size))⟩

theorem result_no (a b c:Int) (w:World) (h:rB a b c=false) :
  Calls Tryz.prog 110 #[.agg #[.int .i64 a,.int .i64 b,.int .i64 c]] w fun e w'=>e = .returned (.tuple #[.agg #[.int .i64 0,.int .i64 0,.int .i64 0],.int .i64 6])/\Below w.heap.size w w':=by
 go_enter Tryz.func110,Tryz.ntmps110
 go_wp2_with (go_at_call 109;refine (right_any _ _ _ _).mono ?_;rintro e w1 ⟨rfl,hb1⟩;obtain ⟨hc1,hf1⟩:=bcell hb1;have hz1a:w.heap.size<w1.heap.size:=(by have h:=hb1.size;(try simp only [World.size_alloc,World.size_setCell,World.size_drew] at h);omega);have hz1b:w.heap.size+1<w1.heap.size:=(by have h:=hb1.size;(try simp only [World.size_alloc,World.size_setCell,World.size_drew] at h);omega))
 exact bodyPost_ret (v:=.tuple #[.agg #[.int .i64 0,.int .i64 0,.int .i64 0],.int .i64 6]) (by simp [results,Tryz.results110,go_sem,hc1,hz1a,hz1b]) rfl ⟨rfl,by (repeat' (first | (with_reducible exact Below.refl _ _) | (with_reducible refine Below.drew ?_) | (with_reducible refine Below.setCell ?_ ?_ _) | (with_reducible refine Below.alloc ?_ ?_ _) | (with_reducible refine Below.trans ?_ (Below.mono hb1 ?_)) | go_size))⟩

theorem add_arg1 (a b c d e f:Int) (w:World) (h:rB a b c=false) :
  Calls Tryz.prog 65 #[.agg #[.int .i64 a,.int .i64 b,.int .i64 c],.agg #[.int .i64 d,.int .i64 e,.int .i64 f]] w fun e w'=>e = .returned (.tuple #[.agg #[.int .i64 0,.int .i64 0,.int .i64 0],.int .i64 1])/\Below w.heap.size w w':=by
 go_enter Tryz.func65,Tryz.ntmps65
 go_wp2_with (go_at_call 109;refine (right_any _ _ _ _).mono ?_;rintro e w1 ⟨rfl,hb1⟩;obtain ⟨hc1,hf1⟩:=bcell hb1;have hz1a:w.heap.size<w1.heap.size:=(by have h:=hb1.size;(try simp only [World.size_alloc,World.size_setCell,World.size_drew] at h);omega);have hz1b:w.heap.size+1<w1.heap.size:=(by have h:=hb1.size;(try simp only [World.size_alloc,World.size_setCell,World.size_drew] at h);omega);have hz1c:w.heap.size+1+1<w1.heap.size:=(by have h:=hb1.size;(try simp only [World.size_alloc,World.size_setCell,World.size_drew] at h);omega))
 exact bodyPost_ret (v:=.tuple #[.agg #[.int .i64 0,.int .i64 0,.int .i64 0],.int .i64 1]) (by simp [results,Tryz.results65,go_sem,hc1,hz1a,hz1b,hz1c]) rfl ⟨rfl,by (repeat' (first | (with_reducible exact Below.refl _ _) | (with_reducible refine Below.drew ?_) | (with_reducible refine Below.setCell ?_ ?_ _) | (with_reducible refine Below.alloc ?_ ?_ _) | (with_reducible refine Below.trans ?_ (Below.mono hb1 ?_)) | go_size))⟩

theorem add_arg2 (a b c d e f:Int) (w:World) (h:rB a b c=true) (h2:rB d e f=false) :
  Calls Tryz.prog 65 #[.agg #[.int .i64 a,.int .i64 b,.int .i64 c],.agg #[.int .i64 d,.int .i64 e,.int .i64 f]] w fun e w'=>e = .returned (.tuple #[.agg #[.int .i64 0,.int .i64 0,.int .i64 0],.int .i64 1])/\Below w.heap.size w w':=by
 go_enter Tryz.func65,Tryz.ntmps65
 go_wp2_with fail
 refine (right_any _ _ _ _).mono ?_;rintro r w1 ⟨rfl,hb1⟩;obtain ⟨hc1,hf1⟩:=bcell hb1;have hz1a:w.heap.size<w1.heap.size:=(by have h:=hb1.size;(try simp only [World.size_alloc,World.size_setCell,World.size_drew] at h);omega);have hz1b:w.heap.size+1<w1.heap.size:=(by have h:=hb1.size;(try simp only [World.size_alloc,World.size_setCell,World.size_drew] at h);omega);have hz1c:w.heap.size+1+1<w1.heap.size:=(by have h:=hb1.size;(try simp only [World.size_alloc,World.size_setCell,World.size_drew] at h);omega)
 go_wp2_with fail
 refine (right_any _ _ _ _).mono ?_;rintro r w2 ⟨rfl,hb2⟩;obtain ⟨hc2,hf2⟩:=bcell hb2;have hz2a:w.heap.size<w2.heap.size:=(by have h:=hb2.size;(try simp only [World.size_alloc,World.size_setCell,World.size_drew] at h);omega);have hz2b:w.heap.size+1<w2.heap.size:=(by have h:=hb2.size;(try simp only [World.size_alloc,World.size_setCell,World.size_drew] at h);omega);have hz2c:w.heap.size+1+1<w2.heap.size:=(by have h:=hb2.size;(try simp only [World.size_alloc,World.size_setCell,World.size_drew] at h);omega)
 go_wp2
 exact bodyPost_ret (v:=.tuple #[.agg #[.int .i64 0,.int .i64 0,.int .i64 0],.int .i64 1]) (by simp [results,Tryz.results65,go_sem,hc1,hc2,hz1a,hz1b,hz1c,hz2a,hz2b,hz2c]) rfl ⟨rfl,by (repeat' (first | (with_reducible exact Below.refl _ _) | (with_reducible refine Below.drew ?_) | (with_reducible refine Below.setCell ?_ ?_ _) | (with_reducible refine Below.alloc ?_ ?_ _) | (with_reducible refine Below.trans ?_ (Below.mono hb1 ?_)) | (with_reducible refine Below.trans ?_ (Below.mono hb2 ?_)) | go_size))⟩

theorem add_ok (a b c d e f:Int) (w:World) (h:rB a b c=true) (h2:rB d e f=true) (h3:rB (a+d) (b+e) (c+f)=true) :
  Calls Tryz.prog 65 #[.agg #[.int .i64 a,.int .i64 b,.int .i64 c],.agg #[.int .i64 d,.int .i64 e,.int .i64 f]] w fun r w'=>r = .returned (.tuple #[.agg #[.int .i64 (a+d),.int .i64 (b+e),.int .i64 (c+f)],.int .i64 0])/\Below w.heap.size w w':=by
 have i0:∀ w,(Instr.index 40 (.agg #[.int .i64 d,.int .i64 e,.int .i64 f]) (.int .i64 0)).run Tryz.prog w = .ok (.int .i64 d) w:=fun _=>by kernel_rfl
 have i1:∀ w,(Instr.index 40 (.agg #[.int .i64 d,.int .i64 e,.int .i64 f]) (.int .i64 1)).run Tryz.prog w = .ok (.int .i64 e) w:=fun _=>by kernel_rfl
 have i2:∀ w,(Instr.index 40 (.agg #[.int .i64 d,.int .i64 e,.int .i64 f]) (.int .i64 2)).run Tryz.prog w = .ok (.int .i64 f) w:=fun _=>by kernel_rfl
 obtain ⟨a0,a1,b0,b1,c0,c1⟩:=rB_bd h
 obtain ⟨d0,d1,e0,e1,f0,f1⟩:=rB_bd h2
 have H3:=Lib.hid h3;clear h3
 go_enter Tryz.func65,Tryz.ntmps65
 go_wp2_with fail
 refine (right_any _ _ _ _).mono ?_;rintro r w1 ⟨rfl,hb1⟩;have hz1a:w.heap.size<w1.heap.size:=(by have h:=hb1.size;(try simp only [World.size_alloc,World.size_setCell,World.size_drew] at h);omega);have hz1b:w.heap.size+1<w1.heap.size:=(by have h:=hb1.size;(try simp only [World.size_alloc,World.size_setCell,World.size_drew] at h);omega);have hz1c:w.heap.size+1+1<w1.heap.size:=(by have h:=hb1.size;(try simp only [World.size_alloc,World.size_setCell,World.size_drew] at h);omega);have k1_00:w1.cell? ⟨w.heap.size,0,none⟩=some (.int .i64 a):=(hb1.cell (p:=⟨w.heap.size,0,none⟩) (by go_size)).trans (by go_cell);have m1_00:w1.frozen? ⟨w.heap.size,0,none⟩=false:=(hb1.frozen (p:=⟨w.heap.size,0,none⟩) (by go_size)).trans (by first | assumption | (go_simp;done));have k1_01:w1.cell? ⟨w.heap.size,1,none⟩=some (.int .i64 b):=(hb1.cell (p:=⟨w.heap.size,1,none⟩) (by go_size)).trans (by go_cell);have m1_01:w1.frozen? ⟨w.heap.size,1,none⟩=false:=(hb1.frozen (p:=⟨w.heap.size,1,none⟩) (by go_size)).trans (by first | assumption | (go_simp;done));have k1_02:w1.cell? ⟨w.heap.size,2,none⟩=some (.int .i64 c):=(hb1.cell (p:=⟨w.heap.size,2,none⟩) (by go_size)).trans (by go_cell);have m1_02:w1.frozen? ⟨w.heap.size,2,none⟩=false:=(hb1.frozen (p:=⟨w.heap.size,2,none⟩) (by go_size)).trans (by first | assumption | (go_simp;done));have k1_10:w1.cell? ⟨w.heap.size+1,0,none⟩=some (.int .i64 d):=(hb1.cell (p:=⟨w.heap.size+1,0,none⟩) (by go_size)).trans (by go_cell);have m1_10:w1.frozen? ⟨w.heap.size+1,0,none⟩=false:=(hb1.frozen (p:=⟨w.heap.size+1,0,none⟩) (by go_size)).trans (by first | assumption | (go_simp;done));have k1_11:w1.cell? ⟨w.heap.size+1,1,none⟩=some (.int .i64 e):=(hb1.cell (p:=⟨w.heap.size+1,1,none⟩) (by go_size)).trans (by go_cell);have m1_11:w1.frozen? ⟨w.heap.size+1,1,none⟩=false:=(hb1.frozen (p:=⟨w.heap.size+1,1,none⟩) (by go_size)).trans (by first | assumption | (go_simp;done));have k1_12:w1.cell? ⟨w.heap.size+1,2,none⟩=some (.int .i64 f):=(hb1.cell (p:=⟨w.heap.size+1,2,none⟩) (by go_size)).trans (by go_cell);have m1_12:w1.frozen? ⟨w.heap.size+1,2,none⟩=false:=(hb1.frozen (p:=⟨w.heap.size+1,2,none⟩) (by go_size)).trans (by first | assumption | (go_simp;done));have k1_20:w1.cell? ⟨w.heap.size+1+1,0,none⟩=some (.int .i64 0):=(hb1.cell (p:=⟨w.heap.size+1+1,0,none⟩) (by go_size)).trans (by go_cell);have m1_20:w1.frozen? ⟨w.heap.size+1+1,0,none⟩=false:=(hb1.frozen (p:=⟨w.heap.size+1+1,0,none⟩) (by go_size)).trans (by first | assumption | (go_simp;done));have k1_21:w1.cell? ⟨w.heap.size+1+1,1,none⟩=some (.int .i64 0):=(hb1.cell (p:=⟨w.heap.size+1+1,1,none⟩) (by go_size)).trans (by go_cell);have m1_21:w1.frozen? ⟨w.heap.size+1+1,1,none⟩=false:=(hb1.frozen (p:=⟨w.heap.size+1+1,1,none⟩) (by go_size)).trans (by first | assumption | (go_simp;done));have k1_22:w1.cell? ⟨w.heap.size+1+1,2,none⟩=some (.int .i64 0):=(hb1.cell (p:=⟨w.heap.size+1+1,2,none⟩) (by go_size)).trans (by go_cell);have m1_22:w1.frozen? ⟨w.heap.size+1+1,2,none⟩=false:=(hb1.frozen (p:=⟨w.heap.size+1+1,2,none⟩) (by go_size)).trans (by first | assumption | (go_simp;done))
 go_wp2_with fail
 refine (right_any _ _ _ _).mono ?_;rintro r w2 ⟨rfl,hb2⟩;have hz2a:w.heap.size<w2.heap.size:=(by have h:=hb2.size;(try simp only [World.size_alloc,World.size_setCell,World.size_drew] at h);omega);have hz2b:w.heap.size+1<w2.heap.size:=(by have h:=hb2.size;(try simp only [World.size_alloc,World.size_setCell,World.size_drew] at h);omega);have hz2c:w.heap.size+1+1<w2.heap.size:=(by have h:=hb2.size;(try simp only [World.size_alloc,World.size_setCell,World.size_drew] at h);omega);have k2_00:w2.cell? ⟨w.heap.size,0,none⟩=some (.int .i64 a):=(hb2.cell (p:=⟨w.heap.size,0,none⟩) (by go_size)).trans (by go_cell);have m2_00:w2.frozen? ⟨w.heap.size,0,none⟩=false:=(hb2.frozen (p:=⟨w.heap.size,0,none⟩) (by go_size)).trans (by first | assumption | (go_simp;done));have k2_01:w2.cell? ⟨w.heap.size,1,none⟩=some (.int .i64 b):=(hb2.cell (p:=⟨w.heap.size,1,none⟩) (by go_size)).trans (by go_cell);have m2_01:w2.frozen? ⟨w.heap.size,1,none⟩=false:=(hb2.frozen (p:=⟨w.heap.size,1,none⟩) (by go_size)).trans (by first | assumption | (go_simp;done));have k2_02:w2.cell? ⟨w.heap.size,2,none⟩=some (.int .i64 c):=(hb2.cell (p:=⟨w.heap.size,2,none⟩) (by go_size)).trans (by go_cell);have m2_02:w2.frozen? ⟨w.heap.size,2,none⟩=false:=(hb2.frozen (p:=⟨w.heap.size,2,none⟩) (by go_size)).trans (by first | assumption | (go_simp;done));have k2_10:w2.cell? ⟨w.heap.size+1,0,none⟩=some (.int .i64 d):=(hb2.cell (p:=⟨w.heap.size+1,0,none⟩) (by go_size)).trans (by go_cell);have m2_10:w2.frozen? ⟨w.heap.size+1,0,none⟩=false:=(hb2.frozen (p:=⟨w.heap.size+1,0,none⟩) (by go_size)).trans (by first | assumption | (go_simp;done));have k2_11:w2.cell? ⟨w.heap.size+1,1,none⟩=some (.int .i64 e):=(hb2.cell (p:=⟨w.heap.size+1,1,none⟩) (by go_size)).trans (by go_cell);have m2_11:w2.frozen? ⟨w.heap.size+1,1,none⟩=false:=(hb2.frozen (p:=⟨w.heap.size+1,1,none⟩) (by go_size)).trans (by first | assumption | (go_simp;done));have k2_12:w2.cell? ⟨w.heap.size+1,2,none⟩=some (.int .i64 f):=(hb2.cell (p:=⟨w.heap.size+1,2,none⟩) (by go_size)).trans (by go_cell);have m2_12:w2.frozen? ⟨w.heap.size+1,2,none⟩=false:=(hb2.frozen (p:=⟨w.heap.size+1,2,none⟩) (by go_size)).trans (by first | assumption | (go_simp;done));have k2_20:w2.cell? ⟨w.heap.size+1+1,0,none⟩=some (.int .i64 0):=(hb2.cell (p:=⟨w.heap.size+1+1,0,none⟩) (by go_size)).trans (by go_cell);have m2_20:w2.frozen? ⟨w.heap.size+1+1,0,none⟩=false:=(hb2.frozen (p:=⟨w.heap.size+1+1,0,none⟩) (by go_size)).trans (by first | assumption | (go_simp;done));have k2_21:w2.cell? ⟨w.heap.size+1+1,1,none⟩=some (.int .i64 0):=(hb2.cell (p:=⟨w.heap.size+1+1,1,none⟩) (by go_size)).trans (by go_cell);have m2_21:w2.frozen? ⟨w.heap.size+1+1,1,none⟩=false:=(hb2.frozen (p:=⟨w.heap.size+1+1,1,none⟩) (by go_size)).trans (by first | assumption | (go_simp;done));have k2_22:w2.cell? ⟨w.heap.size+1+1,2,none⟩=some (.int .i64 0):=(hb2.cell (p:=⟨w.heap.size+1+1,2,none⟩) (by go_size)).trans (by go_cell);have m2_22:w2.frozen? ⟨w.heap.size+1+1,2,none⟩=false:=(hb2.frozen (p:=⟨w.heap.size+1+1,2,none⟩) (by go_size)).trans (by first | assumption | (go_simp;done));clear k1_00 k1_01 k1_02 k1_10 k1_11 k1_12 k1_20 k1_21 k1_22 m1_00 m1_01 m1_02 m1_10 m1_11 m1_12 m1_20 m1_21 m1_22
 go_wp2_with fail
 refine wp_loop_rounds 4 ?_
 repeat any_goals (rw [rounds_succ];go_wp2_with fail)
 refine (result_ok _ _ _ _ H3.out).mono ?_;rintro r w3 ⟨rfl,hb3⟩;obtain ⟨hc3,hf3⟩:=bcell hb3;have hz3a:w.heap.size<w3.heap.size:=(by have h:=hb3.size;(try simp only [World.size_alloc,World.size_setCell,World.size_drew] at h);omega);have hz3b:w.heap.size+1<w3.heap.size:=(by have h:=hb3.size;(try simp only [World.size_alloc,World.size_setCell,World.size_drew] at h);omega);have hz3c:w.heap.size+1+1<w3.heap.size:=(by have h:=hb3.size;(try simp only [World.size_alloc,World.size_setCell,World.size_drew] at h);omega)
 go_wp2
 exact bodyPost_ret (v:=.tuple #[.agg #[.int .i64 (a+d),.int .i64 (b+e),.int .i64 (c+f)],.int .i64 0]) (by simp [results,Tryz.results65,go_sem,hc3,hz2a,hz2b,hz2c,k2_20,k2_21,k2_22]) rfl ⟨rfl,by (repeat' (first | (with_reducible exact Below.refl _ _) | (with_reducible refine Below.drew ?_) | (with_reducible refine Below.setCell ?_ ?_ _) | (with_reducible refine Below.alloc ?_ ?_ _) | (with_reducible refine Below.trans ?_ (Below.mono hb1 ?_)) | (with_reducible refine Below.trans ?_ (Below.mono hb2 ?_)) | (with_reducible refine Below.trans ?_ (Below.mono hb3 ?_)) | go_size))⟩

theorem add_over (a b c d e f:Int) (w:World) (h:rB a b c=true) (h2:rB d e f=true) (h3:rB (a+d) (b+e) (c+f)=false) :
  Calls Tryz.prog 65 #[.agg #[.int .i64 a,.int .i64 b,.int .i64 c],.agg #[.int .i64 d,.int .i64 e,.int .i64 f]] w fun r w'=>r = .returned (.tuple #[.agg #[.int .i64 0,.int .i64 0,.int .i64 0],.int .i64 6])/\Below w.heap.size w w':=by
 have i0:∀ w,(Instr.index 40 (.agg #[.int .i64 d,.int .i64 e,.int .i64 f]) (.int .i64 0)).run Tryz.prog w = .ok (.int .i64 d) w:=fun _=>by kernel_rfl
 have i1:∀ w,(Instr.index 40 (.agg #[.int .i64 d,.int .i64 e,.int .i64 f]) (.int .i64 1)).run Tryz.prog w = .ok (.int .i64 e) w:=fun _=>by kernel_rfl
 have i2:∀ w,(Instr.index 40 (.agg #[.int .i64 d,.int .i64 e,.int .i64 f]) (.int .i64 2)).run Tryz.prog w = .ok (.int .i64 f) w:=fun _=>by kernel_rfl
 obtain ⟨a0,a1,b0,b1,c0,c1⟩:=rB_bd h
 obtain ⟨d0,d1,e0,e1,f0,f1⟩:=rB_bd h2
 have H3:=Lib.hid h3;clear h3
 go_enter Tryz.func65,Tryz.ntmps65
 go_wp2_with fail
 refine (right_any _ _ _ _).mono ?_;rintro r w1 ⟨rfl,hb1⟩;have hz1a:w.heap.size<w1.heap.size:=(by have h:=hb1.size;(try simp only [World.size_alloc,World.size_setCell,World.size_drew] at h);omega);have hz1b:w.heap.size+1<w1.heap.size:=(by have h:=hb1.size;(try simp only [World.size_alloc,World.size_setCell,World.size_drew] at h);omega);have hz1c:w.heap.size+1+1<w1.heap.size:=(by have h:=hb1.size;(try simp only [World.size_alloc,World.size_setCell,World.size_drew] at h);omega);have k1_00:w1.cell? ⟨w.heap.size,0,none⟩=some (.int .i64 a):=(hb1.cell (p:=⟨w.heap.size,0,none⟩) (by go_size)).trans (by go_cell);have m1_00:w1.frozen? ⟨w.heap.size,0,none⟩=false:=(hb1.frozen (p:=⟨w.heap.size,0,none⟩) (by go_size)).trans (by first | assumption | (go_simp;done));have k1_01:w1.cell? ⟨w.heap.size,1,none⟩=some (.int .i64 b):=(hb1.cell (p:=⟨w.heap.size,1,none⟩) (by go_size)).trans (by go_cell);have m1_01:w1.frozen? ⟨w.heap.size,1,none⟩=false:=(hb1.frozen (p:=⟨w.heap.size,1,none⟩) (by go_size)).trans (by first | assumption | (go_simp;done));have k1_02:w1.cell? ⟨w.heap.size,2,none⟩=some (.int .i64 c):=(hb1.cell (p:=⟨w.heap.size,2,none⟩) (by go_size)).trans (by go_cell);have m1_02:w1.frozen? ⟨w.heap.size,2,none⟩=false:=(hb1.frozen (p:=⟨w.heap.size,2,none⟩) (by go_size)).trans (by first | assumption | (go_simp;done));have k1_10:w1.cell? ⟨w.heap.size+1,0,none⟩=some (.int .i64 d):=(hb1.cell (p:=⟨w.heap.size+1,0,none⟩) (by go_size)).trans (by go_cell);have m1_10:w1.frozen? ⟨w.heap.size+1,0,none⟩=false:=(hb1.frozen (p:=⟨w.heap.size+1,0,none⟩) (by go_size)).trans (by first | assumption | (go_simp;done));have k1_11:w1.cell? ⟨w.heap.size+1,1,none⟩=some (.int .i64 e):=(hb1.cell (p:=⟨w.heap.size+1,1,none⟩) (by go_size)).trans (by go_cell);have m1_11:w1.frozen? ⟨w.heap.size+1,1,none⟩=false:=(hb1.frozen (p:=⟨w.heap.size+1,1,none⟩) (by go_size)).trans (by first | assumption | (go_simp;done));have k1_12:w1.cell? ⟨w.heap.size+1,2,none⟩=some (.int .i64 f):=(hb1.cell (p:=⟨w.heap.size+1,2,none⟩) (by go_size)).trans (by go_cell);have m1_12:w1.frozen? ⟨w.heap.size+1,2,none⟩=false:=(hb1.frozen (p:=⟨w.heap.size+1,2,none⟩) (by go_size)).trans (by first | assumption | (go_simp;done));have k1_20:w1.cell? ⟨w.heap.size+1+1,0,none⟩=some (.int .i64 0):=(hb1.cell (p:=⟨w.heap.size+1+1,0,none⟩) (by go_size)).trans (by go_cell);have m1_20:w1.frozen? ⟨w.heap.size+1+1,0,none⟩=false:=(hb1.frozen (p:=⟨w.heap.size+1+1,0,none⟩) (by go_size)).trans (by first | assumption | (go_simp;done));have k1_21:w1.cell? ⟨w.heap.size+1+1,1,none⟩=some (.int .i64 0):=(hb1.cell (p:=⟨w.heap.size+1+1,1,none⟩) (by go_size)).trans (by go_cell);have m1_21:w1.frozen? ⟨w.heap.size+1+1,1,none⟩=false:=(hb1.frozen (p:=⟨w.heap.size+1+1,1,none⟩) (by go_size)).trans (by first | assumption | (go_simp;done));have k1_22:w1.cell? ⟨w.heap.size+1+1,2,none⟩=some (.int .i64 0):=(hb1.cell (p:=⟨w.heap.size+1+1,2,none⟩) (by go_size)).trans (by go_cell);have m1_22:w1.frozen? ⟨w.heap.size+1+1,2,none⟩=false:=(hb1.frozen (p:=⟨w.heap.size+1+1,2,none⟩) (by go_size)).trans (by first | assumption | (go_simp;done))
 go_wp2_with fail
 refine (right_any _ _ _ _).mono ?_;rintro r w2 ⟨rfl,hb2⟩;have hz2a:w.heap.size<w2.heap.size:=(by have h:=hb2.size;(try simp only [World.size_alloc,World.size_setCell,World.size_drew] at h);omega);have hz2b:w.heap.size+1<w2.heap.size:=(by have h:=hb2.size;(try simp only [World.size_alloc,World.size_setCell,World.size_drew] at h);omega);have hz2c:w.heap.size+1+1<w2.heap.size:=(by have h:=hb2.size;(try simp only [World.size_alloc,World.size_setCell,World.size_drew] at h);omega);have k2_00:w2.cell? ⟨w.heap.size,0,none⟩=some (.int .i64 a):=(hb2.cell (p:=⟨w.heap.size,0,none⟩) (by go_size)).trans (by go_cell);have m2_00:w2.frozen? ⟨w.heap.size,0,none⟩=false:=(hb2.frozen (p:=⟨w.heap.size,0,none⟩) (by go_size)).trans (by first | assumption | (go_simp;done));have k2_01:w2.cell? ⟨w.heap.size,1,none⟩=some (.int .i64 b):=(hb2.cell (p:=⟨w.heap.size,1,none⟩) (by go_size)).trans (by go_cell);have m2_01:w2.frozen? ⟨w.heap.size,1,none⟩=false:=(hb2.frozen (p:=⟨w.heap.size,1,none⟩) (by go_size)).trans (by first | assumption | (go_simp;done));have k2_02:w2.cell? ⟨w.heap.size,2,none⟩=some (.int .i64 c):=(hb2.cell (p:=⟨w.heap.size,2,none⟩) (by go_size)).trans (by go_cell);have m2_02:w2.frozen? ⟨w.heap.size,2,none⟩=false:=(hb2.frozen (p:=⟨w.heap.size,2,none⟩) (by go_size)).trans (by first | assumption | (go_simp;done));have k2_10:w2.cell? ⟨w.heap.size+1,0,none⟩=some (.int .i64 d):=(hb2.cell (p:=⟨w.heap.size+1,0,none⟩) (by go_size)).trans (by go_cell);have m2_10:w2.frozen? ⟨w.heap.size+1,0,none⟩=false:=(hb2.frozen (p:=⟨w.heap.size+1,0,none⟩) (by go_size)).trans (by first | assumption | (go_simp;done));have k2_11:w2.cell? ⟨w.heap.size+1,1,none⟩=some (.int .i64 e):=(hb2.cell (p:=⟨w.heap.size+1,1,none⟩) (by go_size)).trans (by go_cell);have m2_11:w2.frozen? ⟨w.heap.size+1,1,none⟩=false:=(hb2.frozen (p:=⟨w.heap.size+1,1,none⟩) (by go_size)).trans (by first | assumption | (go_simp;done));have k2_12:w2.cell? ⟨w.heap.size+1,2,none⟩=some (.int .i64 f):=(hb2.cell (p:=⟨w.heap.size+1,2,none⟩) (by go_size)).trans (by go_cell);have m2_12:w2.frozen? ⟨w.heap.size+1,2,none⟩=false:=(hb2.frozen (p:=⟨w.heap.size+1,2,none⟩) (by go_size)).trans (by first | assumption | (go_simp;done));have k2_20:w2.cell? ⟨w.heap.size+1+1,0,none⟩=some (.int .i64 0):=(hb2.cell (p:=⟨w.heap.size+1+1,0,none⟩) (by go_size)).trans (by go_cell);have m2_20:w2.frozen? ⟨w.heap.size+1+1,0,none⟩=false:=(hb2.frozen (p:=⟨w.heap.size+1+1,0,none⟩) (by go_size)).trans (by first | assumption | (go_simp;done));have k2_21:w2.cell? ⟨w.heap.size+1+1,1,none⟩=some (.int .i64 0):=(hb2.cell (p:=⟨w.heap.size+1+1,1,none⟩) (by go_size)).trans (by go_cell);have m2_21:w2.frozen? ⟨w.heap.size+1+1,1,none⟩=false:=(hb2.frozen (p:=⟨w.heap.size+1+1,1,none⟩) (by go_size)).trans (by first | assumption | (go_simp;done));have k2_22:w2.cell? ⟨w.heap.size+1+1,2,none⟩=some (.int .i64 0):=(hb2.cell (p:=⟨w.heap.size+1+1,2,none⟩) (by go_size)).trans (by go_cell);have m2_22:w2.frozen? ⟨w.heap.size+1+1,2,none⟩=false:=(hb2.frozen (p:=⟨w.heap.size+1+1,2,none⟩) (by go_size)).trans (by first | assumption | (go_simp;done));clear k1_00 k1_01 k1_02 k1_10 k1_11 k1_12 k1_20 k1_21 k1_22 m1_00 m1_01 m1_02 m1_10 m1_11 m1_12 m1_20 m1_21 m1_22
 go_wp2_with fail
 refine wp_loop_rounds 4 ?_
 repeat any_goals (rw [rounds_succ];go_wp2_with fail)
 refine (result_no _ _ _ _ H3.out).mono ?_;rintro r w3 ⟨rfl,hb3⟩;obtain ⟨hc3,hf3⟩:=bcell hb3;have hz3a:w.heap.size<w3.heap.size:=(by have h:=hb3.size;(try simp only [World.size_alloc,World.size_setCell,World.size_drew] at h);omega);have hz3b:w.heap.size+1<w3.heap.size:=(by have h:=hb3.size;(try simp only [World.size_alloc,World.size_setCell,World.size_drew] at h);omega);have hz3c:w.heap.size+1+1<w3.heap.size:=(by have h:=hb3.size;(try simp only [World.size_alloc,World.size_setCell,World.size_drew] at h);omega)
 go_wp2
 exact bodyPost_ret (v:=.tuple #[.agg #[.int .i64 0,.int .i64 0,.int .i64 0],.int .i64 6]) (by simp [results,Tryz.results65,go_sem,hc3,hz2a,hz2b,hz2c,k2_20,k2_21,k2_22]) rfl ⟨rfl,by (repeat' (first | (with_reducible exact Below.refl _ _) | (with_reducible refine Below.drew ?_) | (with_reducible refine Below.setCell ?_ ?_ _) | (with_reducible refine Below.alloc ?_ ?_ _) | (with_reducible refine Below.trans ?_ (Below.mono hb1 ?_)) | (with_reducible refine Below.trans ?_ (Below.mono hb2 ?_)) | (with_reducible refine Below.trans ?_ (Below.mono hb3 ?_)) | go_size))⟩
end
end Go.Proofs.YtccccbofcnmdiaaGreat
