/- Lemmas that the law stands on. No condition. -/
import Derived.Test.YtccccbofcnmdiaaGreatK08
namespace Go.Proofs.YtccccbofcnmdiaaGreat
set_option linter.unusedSimpArgs false
set_option linter.unusedVariables false
set_option maxRecDepth 100000
set_option maxHeartbeats 51200000
section
open Go.RowKit
theorem OwnK.at0 {w:World}{b k n c:Nat}{e:TypeId}{A:Option Addr}{l:List (List Value)}(h:OwnK w b e k (.slice A n c) l)(hl:0<l.length):∃ r,A=some ⟨r,0,none⟩:=by
 rcases h.2.2 with ⟨hv,h0⟩ | ⟨g,cap,cur,hv,_⟩
 ·rw [h0] at hl;exact absurd hl (by simp)
 ·injection hv with e;exact ⟨g,e⟩
theorem rdA1 {w:World}{g:Nat}{t:TypeId}{x:Ac}(h:Bk w g t #[.int .i64 x.1,.string x.2.1,.string x.2.2]):RdK w 3 (some ⟨g,0,none⟩) (cellsA [x]):=fun i y hy=>by
 match i,hy with
 | 0,hy=>simp [cellsA] at hy;subst hy;exact ⟨g,0,rfl,h.range (Part.whole _)⟩
 | i+1,hy=>simp [cellsA] at hy
theorem jbs_relK {s:ByteArray}{J:List Jl}{k:Nat}(h:k<J.length):(jbs (relK s J k))[k]'(by rw [List.length_map,relK_length];exact h)=J[k].1:=by
 simp only [jbs,List.getElem_map]
 rw [relK_at h]
theorem JzOk.rest {x:Jl}(h:JzOk x):JzOk (restX x):=⟨h.1,h.2.1,h.2.2.1,h.2.2.2.1,(show (⟨#[]⟩:ByteArray).size<=_ from by decide)⟩
structure Rl (w wr:World) (b g:Nat) (lst:Int)(vM vQ vJ:Value)(S:Sg)(s:ByteArray) (k:Nat)(vA:Value):Prop where
 wn:Wn w wr b g vM vQ vJ S lst vM vQ vJ { S with J:=relK s S.J k }
 ac:OwnK wr w.heap.size 64 3 vA (cellsA (relA s (S.J.take k)))
section
variable {w wr w1 w2 w3:World}{b g k:Nat}{lst:Int}{vM vQ vJ vA vB:Value}{S:Sg}{s:ByteArray}
theorem Rl.zero (h:Gs w b g lst vM vQ vJ S):Rl w w b g lst vM vQ vJ S s 0 (.slice none 0 0):=
 ⟨by rw [relK_zero];exact Wn.refl h,by rw [relA_zero];exact OwnK.nil _ _ _ _⟩
theorem Rl.skip (h:Rl w wr b g lst vM vQ vJ S s k vA)(hk:k<S.J.length)(he:sE S.J[k].1.nd s=false):Rl w wr b g lst vM vQ vJ S s (k+1) vA:=
 ⟨by rw [relK_skip hk he];exact h.wn,by rw [relA_skip hk he];exact h.ac⟩
theorem Rl.turn (h:Rl w wr b g lst vM vQ vJ S s k vA)(hk:k<S.J.length)(he:sE S.J[k].1.nd s=true)(hg:GrP (fun k=>vJ.ownBlock=some k) wr w1)(hO:OwnK w1 b 66 13 vJ (cellsJ ((jbs (relK s S.J k)).set k (S.J[k].1.rest)))) :
  Wn w w1 b g vM vQ vJ S lst vM vQ vJ { S with J:=relK s S.J (k+1) } /\ OwnK w1 w.heap.size 64 3 vA (cellsA (relA s (S.J.take k))):=by
 refine ⟨h.wn.trans ?_,h.ac.grp hg fun q hq e=>h.ac.parted h.wn.gs.own.J (by decide) hq e⟩
 have hkl:k<(relK s S.J k).length:=by rw [relK_length];exact hk
 have h1:=h.wn.gs.oneJ (p:=k) (y:=restX S.J[k]) hkl hg hO (by have:=h.wn.gs.own.zJ (relK s S.J k)[k] (List.getElem_mem hkl);rw [relK_at hk] at this;exact JzOk.rest this) (by simp only [relK_at hk];exact ⟨rfl,rfl,rfl,rfl⟩)
 rw [relK_turn hk he]
 exact h1
theorem Rl.put (h:Wn w w1 b g vM vQ vJ S lst vM vQ vJ { S with J:=relK s S.J (k+1) })(hA:OwnK w2 w.heap.size 64 3 vA (cellsA (relA s (S.J.take k))))(hb:Below w1.heap.size w1 w2)(hk:k<S.J.length)(he:sE S.J[k].1.nd s=true)
  (hO:OwnK w3 w.heap.size 64 3 vB (cellsA (relA s (S.J.take k)) ++ cellsA [(3,S.J[k].1.nm,S.J[k].1.nd)]))(hg:w2.grownBy w3 vA.ownBlock):Rl w w3 b g lst vM vQ vJ S s (k+1) vB:=
 ⟨(h.below hb).acts hA hg (Nat.le_refl _),by rw [relA_turn hk he,cellsA_append];exact hO⟩
end


theorem release_any (b g:Nat) (lst:Int)(vM vQ vJ:Value)(S:Sg)(s:ByteArray)(w:World)(hG:Hid (Gs w b g lst vM vQ vJ S))(hM:S.J.length<=1000) :
  Calls Tryz.prog 126 #[.pointer (some ⟨g,0,none⟩),.string s] w fun e w'=>(∃ v,e = .returned v/\OwnK w' w.heap.size 64 3 v (cellsA (relA s S.J)))/\Wn w w' b g vM vQ vJ S lst vM vQ vJ { S with J:=relJ s S.J }:=by
 obtain ⟨C,cC,hv,_,h1,_,_⟩:=hG.out.own.J.sl
 obtain ⟨n,hn⟩:∃ n,n=S.J.length:=⟨_,rfl⟩
 rw [cellsJ_length,List.length_map,<- hn] at hv h1
 subst hv
 have hnb:n<=1000:=by rw [hn];exact hM
 have HN:=Lib.hid hn;have HNB:=Lib.hid hnb
 have H0:Hid (Rl w w b g lst vM vQ (.slice C n cC) S s 0 (.slice none 0 0)):=Rl.zero hG.out
 have c4:w.cell? ⟨g,4,none⟩=some (.slice C n cC):=hG.out.bk.cellAt 4
 clear hn hM hnb h1
 go_enter Tryz.func126,Tryz.ntmps126
 go_wp2_with fail
 clear c4
 go_loopw [5,12] (fun s5 s12 wr=>∃ (k:Nat),k<=n/\s12 = .int .i64 k/\Hid (Rl w wr b g lst vM vQ (.slice C n cC) S s k s5)) (fun s5 s12 wr=>n - (intOf s12).toNat)
 case atStart=>exact ⟨0,Nat.zero_le _,rfl,H0⟩
 case round=>
  clear H0
  obtain ⟨k,hk,rfl,H⟩:=hrel
  by_cases hlt:k<n
  ·have hkl:Hid (k<S.J.length):=by show k<S.J.length;rw [<- HN.out];exact hlt
   obtain ⟨r,rfl⟩:=H.out.wn.gs.own.J.at0 (by rw [cellsJ_length,List.length_map,show ({ S with J:=relK s S.J k }:Sg).J.length=S.J.length from relK_length];exact Nat.lt_of_le_of_lt (Nat.zero_le _) hkl.out)
   obtain ⟨nd,hnd⟩:∃ nd,nd=(S.J[k]'hkl.out).1.nd:=⟨_,rfl⟩
   obtain ⟨nm,hnm⟩:∃ nm,nm=(S.J[k]'hkl.out).1.nm:=⟨_,rfl⟩
   have hlk:k<(jbs (relK s S.J k)).length:=by rw [List.length_map,relK_length];exact hkl.out
   have hwk:wrap64 ((k:Int)+1)=((k+1:Nat):Int):=by have:=HNB.out;unfold wrap64;omega
   have c4:wr.cell? ⟨g,4,none⟩=some (.slice (some ⟨r,0,none⟩) n cC):=H.out.wn.gs.bk.cellAt 4
   have cnd:wr.cell? ⟨r,k * 13+11,none⟩=some (.string nd):=by rw [hnd,<- jbs_relK (s:=s) hkl.out];exact H.out.wn.gs.own.J.jobAt hlk (j:=11) rfl
   cases he:sE nd s
   case false=>
    have H1:Hid (Rl w wr b g lst vM vQ (.slice (some ⟨r,0,none⟩) n cC) S s (k+1) u5):=H.out.skip hkl.out (by rw [<- hnd];exact he)
    have he':(nd.toList == s.toList)=false:=he
    clear he H hnd hnm hlk
    go_wp2_with fail
    go_round
    case rel=>exact ⟨k+1,by omega,by go_num,H1⟩
    case measure=>rw [hwk];show n - ((k+1:Nat):Int).toNat<n - (k:Int).toNat;rw [Int.toNat_natCast,Int.toNat_natCast];omega
   case true=>
    have he':(nd.toList == s.toList)=true:=he
    have HE:Hid (sE (S.J[k]'hkl.out).1.nd s=true):=by show _=_;rw [<- hnd];exact he
    have hu:∀ W,OwnK W b 66 13 (.slice (some ⟨r,0,none⟩) n cC) (cellsJ (jbs (relK s S.J k)))->Calls Tryz.prog 132 #[.pointer (some ⟨r,k * 13,none⟩),.int .i64 3] W fun e w'=>e = .returned (.agg #[.int .i64 3,.string nm,.string nd])/\OwnK w' b 66 13 (.slice (some ⟨r,0,none⟩) n cC) (cellsJ ((jbs (relK s S.J k)).set k (S.J[k]'hkl.out).1.rest))/\GrP (fun k=>k=r) W w':=fun W h=>by
     have:=unbind_any b r n cC k 3 (jbs (relK s S.J k)) W hlk h
     rw [jbs_relK hkl.out,<- hnd,<- hnm] at this
     exact this
    have HU:=Lib.hid hu;have HND:=Lib.hid hnd;have HNM:=Lib.hid hnm
    have HLA:Hid ((cellsA (relA s (S.J.take k))).length<=1000):=by show _<=1000;rw [cellsA_length];exact Nat.le_trans relA_le (by rw [<- HN.out];exact HNB.out)
    clear he hu hnd hnm hlk
    go_wp2_with fail
    refine (HU.out _ H.out.wn.gs.own.J).mono ?_;rintro e w1 ⟨rfl,hO1,hg1⟩
    have hT:=H.out.turn hkl.out HE.out (hg1.wide fun q _ e=>by rw [e];rfl) hO1
    have HT1:=Lib.hid hT.1;have HT2:=Lib.hid hT.2
    have HSZ:Hid (w.heap.size<=w1.heap.size):=hT.1.gr.size
    clear hO1 hg1 hT H HU c4 cnd
    go_wp2_with ((with_reducible refine append_ka _ rfl (.tmp 25) (.tmp 33) 34 rfl w.heap.size 64 _ 3 40 Tryz.underlying34 infoA15 rfl (by omega) u5 (cellsA (relA s (S.J.take k))) rfl (HT2.out.alloc _) ⟨w1.heap.size,0,none⟩ 1 1 (cellsA [(3,nm,nd)]) rfl (rdA1 (x:=(3,nm,nd)) (Bk.fresh _ _ _)) (cellsA_k _) (cellsA_one _) rfl (by have:=HLA.out;rw [cellsA_length [(3,nm,nd)]];simp [maxLen];omega) (by have:=HLA.out;rw [cellsA_length [(3,nm,nd)]];simp;omega) (by have:=HSZ.out;simp;omega) ?_);intro v3 w3 hO3 hg3 hat3;clear hat3;have H3:Hid (Rl w w3 b g lst vM vQ (.slice (some ⟨r,0,none⟩) n cC) S s (k+1) v3):=Rl.put HT1.out (HT2.out.alloc _) ((Below.refl _ _).alloc (Nat.le_refl _) _) hkl.out HE.out (by rw [<- HND.out,<- HNM.out];exact hO3) hg3;clear hO3 hg3)
    clear HT1 HT2 HND HNM
    go_round
    case rel=>exact ⟨k+1,by omega,by go_num,H3⟩
    case measure=>rw [hwk];show n - ((k+1:Nat):Int).toNat<n - (k:Int).toNat;rw [Int.toNat_natCast,Int.toNat_natCast];omega
  ·have hkn:k=n:=by omega
   subst hkn
   have HF:Hid ((OwnK wr w.heap.size 64 3 u5 (cellsA (relA s S.J)))/\Wn w wr b g vM vQ (.slice C k cC) S lst vM vQ (.slice C k cC) { S with J:=relJ s S.J }):=by
    have h1:=H.out.wn;have h2:=H.out.ac
    rw [HN.out,relK_all,<- HN.out] at h1
    rw [HN.out,List.take_length] at h2
    exact ⟨h2,h1⟩
   clear H hk hlt
   go_wp2_with fail
   go_ret
   exact ⟨⟨u5,rfl,HF.out.1⟩,HF.out.2⟩
end
section
open Go.RowKit

theorem result_ok (a b c:Int)(w:World)(h:rB a b c=true) :
  Calls Tryz.prog 110 #[.agg #[.int .i64 a,.int .i64 b,.int .i64 c]] w fun e w'=>e = .returned (.tuple #[.agg #[.int .i64 a,.int .i64 b,.int .i64 c],.int .i64 0])/\Below w.heap.size w w':=by
 go_enter Tryz.func110,Tryz.ntmps110
 go_wp2_with (go_at_call 109;refine (right_any _ _ _ _).mono ?_;rintro e w1 ⟨rfl,hb1⟩;obtain ⟨hc1,hf1⟩:=bcell hb1;have hz1a:w.heap.size<w1.heap.size:=sT hb1;have hz1b:w.heap.size+1<w1.heap.size:=sT hb1)
 exact bodyPost_ret (v:=.tuple #[.agg #[.int .i64 a,.int .i64 b,.int .i64 c],.int .i64 0]) (by simp [results,Tryz.results110,go_sem,hc1,hz1a,hz1b]) rfl ⟨rfl,by (repeat' (first | (with_reducible exact Below.refl _ _) | (with_reducible refine Below.drew ?_) | (with_reducible refine Below.setCell ?_ ?_ _) | (with_reducible refine Below.alloc ?_ ?_ _) | (with_reducible refine Below.trans ?_ (Below.mono hb1 ?_)) | go_size))⟩

theorem result_no (a b c:Int)(w:World)(h:rB a b c=false) :
  Calls Tryz.prog 110 #[.agg #[.int .i64 a,.int .i64 b,.int .i64 c]] w fun e w'=>e = .returned (.tuple #[.agg #[.int .i64 0,.int .i64 0,.int .i64 0],.int .i64 6])/\Below w.heap.size w w':=by
 go_enter Tryz.func110,Tryz.ntmps110
 go_wp2_with (go_at_call 109;refine (right_any _ _ _ _).mono ?_;rintro e w1 ⟨rfl,hb1⟩;obtain ⟨hc1,hf1⟩:=bcell hb1;have hz1a:w.heap.size<w1.heap.size:=sT hb1;have hz1b:w.heap.size+1<w1.heap.size:=sT hb1)
 exact bodyPost_ret (v:=.tuple #[.agg #[.int .i64 0,.int .i64 0,.int .i64 0],.int .i64 6]) (by simp [results,Tryz.results110,go_sem,hc1,hz1a,hz1b]) rfl ⟨rfl,by (repeat' (first | (with_reducible exact Below.refl _ _) | (with_reducible refine Below.drew ?_) | (with_reducible refine Below.setCell ?_ ?_ _) | (with_reducible refine Below.alloc ?_ ?_ _) | (with_reducible refine Below.trans ?_ (Below.mono hb1 ?_)) | go_size))⟩

theorem add_arg1 (a b c d e f:Int)(w:World)(h:rB a b c=false) :
  Calls Tryz.prog 65 #[.agg #[.int .i64 a,.int .i64 b,.int .i64 c],.agg #[.int .i64 d,.int .i64 e,.int .i64 f]] w fun e w'=>e = .returned (.tuple #[.agg #[.int .i64 0,.int .i64 0,.int .i64 0],.int .i64 1])/\Below w.heap.size w w':=by
 go_enter Tryz.func65,Tryz.ntmps65
 go_wp2_with (go_at_call 109;refine (right_any _ _ _ _).mono ?_;rintro e w1 ⟨rfl,hb1⟩;obtain ⟨hc1,hf1⟩:=bcell hb1;have hz1a:w.heap.size<w1.heap.size:=sT hb1;have hz1b:w.heap.size+1<w1.heap.size:=sT hb1;have hz1c:w.heap.size+1+1<w1.heap.size:=sT hb1)
 exact bodyPost_ret (v:=.tuple #[.agg #[.int .i64 0,.int .i64 0,.int .i64 0],.int .i64 1]) (by simp [results,Tryz.results65,go_sem,hc1,hz1a,hz1b,hz1c]) rfl ⟨rfl,by (repeat' (first | (with_reducible exact Below.refl _ _) | (with_reducible refine Below.drew ?_) | (with_reducible refine Below.setCell ?_ ?_ _) | (with_reducible refine Below.alloc ?_ ?_ _) | (with_reducible refine Below.trans ?_ (Below.mono hb1 ?_)) | go_size))⟩

theorem add_arg2 (a b c d e f:Int)(w:World)(h:rB a b c=true)(h2:rB d e f=false) :
  Calls Tryz.prog 65 #[.agg #[.int .i64 a,.int .i64 b,.int .i64 c],.agg #[.int .i64 d,.int .i64 e,.int .i64 f]] w fun e w'=>e = .returned (.tuple #[.agg #[.int .i64 0,.int .i64 0,.int .i64 0],.int .i64 1])/\Below w.heap.size w w':=by
 go_enter Tryz.func65,Tryz.ntmps65
 go_wp2_with fail
 refine (right_any _ _ _ _).mono ?_;rintro r w1 ⟨rfl,hb1⟩;obtain ⟨hc1,hf1⟩:=bcell hb1;have hz1a:w.heap.size<w1.heap.size:=sT hb1;have hz1b:w.heap.size+1<w1.heap.size:=sT hb1;have hz1c:w.heap.size+1+1<w1.heap.size:=sT hb1
 go_wp2_with fail
 refine (right_any _ _ _ _).mono ?_;rintro r w2 ⟨rfl,hb2⟩;obtain ⟨hc2,hf2⟩:=bcell hb2;have hz2a:w.heap.size<w2.heap.size:=sT hb2;have hz2b:w.heap.size+1<w2.heap.size:=sT hb2;have hz2c:w.heap.size+1+1<w2.heap.size:=sT hb2
 go_wp2
 exact bodyPost_ret (v:=.tuple #[.agg #[.int .i64 0,.int .i64 0,.int .i64 0],.int .i64 1]) (by simp [results,Tryz.results65,go_sem,hc1,hc2,hz1a,hz1b,hz1c,hz2a,hz2b,hz2c]) rfl ⟨rfl,by (repeat' (first | (with_reducible exact Below.refl _ _) | (with_reducible refine Below.drew ?_) | (with_reducible refine Below.setCell ?_ ?_ _) | (with_reducible refine Below.alloc ?_ ?_ _) | (with_reducible refine Below.trans ?_ (Below.mono hb1 ?_)) | (with_reducible refine Below.trans ?_ (Below.mono hb2 ?_)) | go_size))⟩

theorem add_ok (a b c d e f:Int)(w:World)(h:rB a b c=true)(h2:rB d e f=true)(h3:rB (a+d) (b+e) (c+f)=true) :
  Calls Tryz.prog 65 #[.agg #[.int .i64 a,.int .i64 b,.int .i64 c],.agg #[.int .i64 d,.int .i64 e,.int .i64 f]] w fun r w'=>r = .returned (.tuple #[.agg #[.int .i64 (a+d),.int .i64 (b+e),.int .i64 (c+f)],.int .i64 0])/\Below w.heap.size w w':=by
 have i0:∀ w,(Instr.index 40 (.agg #[.int .i64 d,.int .i64 e,.int .i64 f]) (.int .i64 0)).run Tryz.prog w = .ok (.int .i64 d) w:=fun _=>by kernel_rfl
 have i1:∀ w,(Instr.index 40 (.agg #[.int .i64 d,.int .i64 e,.int .i64 f]) (.int .i64 1)).run Tryz.prog w = .ok (.int .i64 e) w:=fun _=>by kernel_rfl
 have i2:∀ w,(Instr.index 40 (.agg #[.int .i64 d,.int .i64 e,.int .i64 f]) (.int .i64 2)).run Tryz.prog w = .ok (.int .i64 f) w:=fun _=>by kernel_rfl
 obtain ⟨a0,a1,b0,b1,c0,c1⟩:=rB_bd h
 obtain ⟨d0,d1,e0,e1,f0,f1⟩:=rB_bd h2
 have H3:=Lib.hid h3;clear h3
 go_enter Tryz.func65,Tryz.ntmps65
 go_wp2_with fail
 refine (right_any _ _ _ _).mono ?_;rintro r w1 ⟨rfl,hb1⟩;have hz1a:w.heap.size<w1.heap.size:=sT hb1;have hz1b:w.heap.size+1<w1.heap.size:=sT hb1;have hz1c:w.heap.size+1+1<w1.heap.size:=sT hb1;have k1_00:w1.cell? ⟨w.heap.size,0,none⟩=some (.int .i64 a):=cT hb1;have m1_00:w1.frozen? ⟨w.heap.size,0,none⟩=false:=fT hb1;have k1_01:w1.cell? ⟨w.heap.size,1,none⟩=some (.int .i64 b):=cT hb1;have m1_01:w1.frozen? ⟨w.heap.size,1,none⟩=false:=fT hb1;have k1_02:w1.cell? ⟨w.heap.size,2,none⟩=some (.int .i64 c):=cT hb1;have m1_02:w1.frozen? ⟨w.heap.size,2,none⟩=false:=fT hb1;have k1_10:w1.cell? ⟨w.heap.size+1,0,none⟩=some (.int .i64 d):=cT hb1;have m1_10:w1.frozen? ⟨w.heap.size+1,0,none⟩=false:=fT hb1;have k1_11:w1.cell? ⟨w.heap.size+1,1,none⟩=some (.int .i64 e):=cT hb1;have m1_11:w1.frozen? ⟨w.heap.size+1,1,none⟩=false:=fT hb1;have k1_12:w1.cell? ⟨w.heap.size+1,2,none⟩=some (.int .i64 f):=cT hb1;have m1_12:w1.frozen? ⟨w.heap.size+1,2,none⟩=false:=fT hb1;have k1_20:w1.cell? ⟨w.heap.size+1+1,0,none⟩=some (.int .i64 0):=cT hb1;have m1_20:w1.frozen? ⟨w.heap.size+1+1,0,none⟩=false:=fT hb1;have k1_21:w1.cell? ⟨w.heap.size+1+1,1,none⟩=some (.int .i64 0):=cT hb1;have m1_21:w1.frozen? ⟨w.heap.size+1+1,1,none⟩=false:=fT hb1;have k1_22:w1.cell? ⟨w.heap.size+1+1,2,none⟩=some (.int .i64 0):=cT hb1;have m1_22:w1.frozen? ⟨w.heap.size+1+1,2,none⟩=false:=fT hb1
 go_wp2_with fail
 refine (right_any _ _ _ _).mono ?_;rintro r w2 ⟨rfl,hb2⟩;have hz2a:w.heap.size<w2.heap.size:=sT hb2;have hz2b:w.heap.size+1<w2.heap.size:=sT hb2;have hz2c:w.heap.size+1+1<w2.heap.size:=sT hb2;have k2_00:w2.cell? ⟨w.heap.size,0,none⟩=some (.int .i64 a):=cT hb2;have m2_00:w2.frozen? ⟨w.heap.size,0,none⟩=false:=fT hb2;have k2_01:w2.cell? ⟨w.heap.size,1,none⟩=some (.int .i64 b):=cT hb2;have m2_01:w2.frozen? ⟨w.heap.size,1,none⟩=false:=fT hb2;have k2_02:w2.cell? ⟨w.heap.size,2,none⟩=some (.int .i64 c):=cT hb2;have m2_02:w2.frozen? ⟨w.heap.size,2,none⟩=false:=fT hb2;have k2_10:w2.cell? ⟨w.heap.size+1,0,none⟩=some (.int .i64 d):=cT hb2;have m2_10:w2.frozen? ⟨w.heap.size+1,0,none⟩=false:=fT hb2;have k2_11:w2.cell? ⟨w.heap.size+1,1,none⟩=some (.int .i64 e):=cT hb2;have m2_11:w2.frozen? ⟨w.heap.size+1,1,none⟩=false:=fT hb2;have k2_12:w2.cell? ⟨w.heap.size+1,2,none⟩=some (.int .i64 f):=cT hb2;have m2_12:w2.frozen? ⟨w.heap.size+1,2,none⟩=false:=fT hb2;have k2_20:w2.cell? ⟨w.heap.size+1+1,0,none⟩=some (.int .i64 0):=cT hb2;have m2_20:w2.frozen? ⟨w.heap.size+1+1,0,none⟩=false:=fT hb2;have k2_21:w2.cell? ⟨w.heap.size+1+1,1,none⟩=some (.int .i64 0):=cT hb2;have m2_21:w2.frozen? ⟨w.heap.size+1+1,1,none⟩=false:=fT hb2;have k2_22:w2.cell? ⟨w.heap.size+1+1,2,none⟩=some (.int .i64 0):=cT hb2;have m2_22:w2.frozen? ⟨w.heap.size+1+1,2,none⟩=false:=fT hb2;clear k1_00 k1_01 k1_02 k1_10 k1_11 k1_12 k1_20 k1_21 k1_22 m1_00 m1_01 m1_02 m1_10 m1_11 m1_12 m1_20 m1_21 m1_22
 go_wp2_with fail
 refine wp_loop_rounds 4 ?_
 repeat any_goals (rw [rounds_succ];go_wp2_with fail)
 refine (result_ok _ _ _ _ H3.out).mono ?_;rintro r w3 ⟨rfl,hb3⟩;obtain ⟨hc3,hf3⟩:=bcell hb3;have hz3a:w.heap.size<w3.heap.size:=sT hb3;have hz3b:w.heap.size+1<w3.heap.size:=sT hb3;have hz3c:w.heap.size+1+1<w3.heap.size:=sT hb3
 go_wp2
 exact bodyPost_ret (v:=.tuple #[.agg #[.int .i64 (a+d),.int .i64 (b+e),.int .i64 (c+f)],.int .i64 0]) (by simp [results,Tryz.results65,go_sem,hc3,hz2a,hz2b,hz2c,k2_20,k2_21,k2_22]) rfl ⟨rfl,by (repeat' (first | (with_reducible exact Below.refl _ _) | (with_reducible refine Below.drew ?_) | (with_reducible refine Below.setCell ?_ ?_ _) | (with_reducible refine Below.alloc ?_ ?_ _) | (with_reducible refine Below.trans ?_ (Below.mono hb1 ?_)) | (with_reducible refine Below.trans ?_ (Below.mono hb2 ?_)) | (with_reducible refine Below.trans ?_ (Below.mono hb3 ?_)) | go_size))⟩

theorem add_over (a b c d e f:Int)(w:World)(h:rB a b c=true)(h2:rB d e f=true)(h3:rB (a+d) (b+e) (c+f)=false) :
  Calls Tryz.prog 65 #[.agg #[.int .i64 a,.int .i64 b,.int .i64 c],.agg #[.int .i64 d,.int .i64 e,.int .i64 f]] w fun r w'=>r = .returned (.tuple #[.agg #[.int .i64 0,.int .i64 0,.int .i64 0],.int .i64 6])/\Below w.heap.size w w':=by
 have i0:∀ w,(Instr.index 40 (.agg #[.int .i64 d,.int .i64 e,.int .i64 f]) (.int .i64 0)).run Tryz.prog w = .ok (.int .i64 d) w:=fun _=>by kernel_rfl
 have i1:∀ w,(Instr.index 40 (.agg #[.int .i64 d,.int .i64 e,.int .i64 f]) (.int .i64 1)).run Tryz.prog w = .ok (.int .i64 e) w:=fun _=>by kernel_rfl
 have i2:∀ w,(Instr.index 40 (.agg #[.int .i64 d,.int .i64 e,.int .i64 f]) (.int .i64 2)).run Tryz.prog w = .ok (.int .i64 f) w:=fun _=>by kernel_rfl
 obtain ⟨a0,a1,b0,b1,c0,c1⟩:=rB_bd h
 obtain ⟨d0,d1,e0,e1,f0,f1⟩:=rB_bd h2
 have H3:=Lib.hid h3;clear h3
 go_enter Tryz.func65,Tryz.ntmps65
 go_wp2_with fail
 refine (right_any _ _ _ _).mono ?_;rintro r w1 ⟨rfl,hb1⟩;have hz1a:w.heap.size<w1.heap.size:=sT hb1;have hz1b:w.heap.size+1<w1.heap.size:=sT hb1;have hz1c:w.heap.size+1+1<w1.heap.size:=sT hb1;have k1_00:w1.cell? ⟨w.heap.size,0,none⟩=some (.int .i64 a):=cT hb1;have m1_00:w1.frozen? ⟨w.heap.size,0,none⟩=false:=fT hb1;have k1_01:w1.cell? ⟨w.heap.size,1,none⟩=some (.int .i64 b):=cT hb1;have m1_01:w1.frozen? ⟨w.heap.size,1,none⟩=false:=fT hb1;have k1_02:w1.cell? ⟨w.heap.size,2,none⟩=some (.int .i64 c):=cT hb1;have m1_02:w1.frozen? ⟨w.heap.size,2,none⟩=false:=fT hb1;have k1_10:w1.cell? ⟨w.heap.size+1,0,none⟩=some (.int .i64 d):=cT hb1;have m1_10:w1.frozen? ⟨w.heap.size+1,0,none⟩=false:=fT hb1;have k1_11:w1.cell? ⟨w.heap.size+1,1,none⟩=some (.int .i64 e):=cT hb1;have m1_11:w1.frozen? ⟨w.heap.size+1,1,none⟩=false:=fT hb1;have k1_12:w1.cell? ⟨w.heap.size+1,2,none⟩=some (.int .i64 f):=cT hb1;have m1_12:w1.frozen? ⟨w.heap.size+1,2,none⟩=false:=fT hb1;have k1_20:w1.cell? ⟨w.heap.size+1+1,0,none⟩=some (.int .i64 0):=cT hb1;have m1_20:w1.frozen? ⟨w.heap.size+1+1,0,none⟩=false:=fT hb1;have k1_21:w1.cell? ⟨w.heap.size+1+1,1,none⟩=some (.int .i64 0):=cT hb1;have m1_21:w1.frozen? ⟨w.heap.size+1+1,1,none⟩=false:=fT hb1;have k1_22:w1.cell? ⟨w.heap.size+1+1,2,none⟩=some (.int .i64 0):=cT hb1;have m1_22:w1.frozen? ⟨w.heap.size+1+1,2,none⟩=false:=fT hb1
 go_wp2_with fail
 refine (right_any _ _ _ _).mono ?_;rintro r w2 ⟨rfl,hb2⟩;have hz2a:w.heap.size<w2.heap.size:=sT hb2;have hz2b:w.heap.size+1<w2.heap.size:=sT hb2;have hz2c:w.heap.size+1+1<w2.heap.size:=sT hb2;have k2_00:w2.cell? ⟨w.heap.size,0,none⟩=some (.int .i64 a):=cT hb2;have m2_00:w2.frozen? ⟨w.heap.size,0,none⟩=false:=fT hb2;have k2_01:w2.cell? ⟨w.heap.size,1,none⟩=some (.int .i64 b):=cT hb2;have m2_01:w2.frozen? ⟨w.heap.size,1,none⟩=false:=fT hb2;have k2_02:w2.cell? ⟨w.heap.size,2,none⟩=some (.int .i64 c):=cT hb2;have m2_02:w2.frozen? ⟨w.heap.size,2,none⟩=false:=fT hb2;have k2_10:w2.cell? ⟨w.heap.size+1,0,none⟩=some (.int .i64 d):=cT hb2;have m2_10:w2.frozen? ⟨w.heap.size+1,0,none⟩=false:=fT hb2;have k2_11:w2.cell? ⟨w.heap.size+1,1,none⟩=some (.int .i64 e):=cT hb2;have m2_11:w2.frozen? ⟨w.heap.size+1,1,none⟩=false:=fT hb2;have k2_12:w2.cell? ⟨w.heap.size+1,2,none⟩=some (.int .i64 f):=cT hb2;have m2_12:w2.frozen? ⟨w.heap.size+1,2,none⟩=false:=fT hb2;have k2_20:w2.cell? ⟨w.heap.size+1+1,0,none⟩=some (.int .i64 0):=cT hb2;have m2_20:w2.frozen? ⟨w.heap.size+1+1,0,none⟩=false:=fT hb2;have k2_21:w2.cell? ⟨w.heap.size+1+1,1,none⟩=some (.int .i64 0):=cT hb2;have m2_21:w2.frozen? ⟨w.heap.size+1+1,1,none⟩=false:=fT hb2;have k2_22:w2.cell? ⟨w.heap.size+1+1,2,none⟩=some (.int .i64 0):=cT hb2;have m2_22:w2.frozen? ⟨w.heap.size+1+1,2,none⟩=false:=fT hb2;clear k1_00 k1_01 k1_02 k1_10 k1_11 k1_12 k1_20 k1_21 k1_22 m1_00 m1_01 m1_02 m1_10 m1_11 m1_12 m1_20 m1_21 m1_22
 go_wp2_with fail
 refine wp_loop_rounds 4 ?_
 repeat any_goals (rw [rounds_succ];go_wp2_with fail)
 refine (result_no _ _ _ _ H3.out).mono ?_;rintro r w3 ⟨rfl,hb3⟩;obtain ⟨hc3,hf3⟩:=bcell hb3;have hz3a:w.heap.size<w3.heap.size:=sT hb3;have hz3b:w.heap.size+1<w3.heap.size:=sT hb3;have hz3c:w.heap.size+1+1<w3.heap.size:=sT hb3
 go_wp2
 exact bodyPost_ret (v:=.tuple #[.agg #[.int .i64 0,.int .i64 0,.int .i64 0],.int .i64 6]) (by simp [results,Tryz.results65,go_sem,hc3,hz2a,hz2b,hz2c,k2_20,k2_21,k2_22]) rfl ⟨rfl,by (repeat' (first | (with_reducible exact Below.refl _ _) | (with_reducible refine Below.drew ?_) | (with_reducible refine Below.setCell ?_ ?_ _) | (with_reducible refine Below.alloc ?_ ?_ _) | (with_reducible refine Below.trans ?_ (Below.mono hb1 ?_)) | (with_reducible refine Below.trans ?_ (Below.mono hb2 ?_)) | (with_reducible refine Below.trans ?_ (Below.mono hb3 ?_)) | go_size))⟩
end
section
open Go.RowKit

theorem sub_arg1 (a b c d e f:Int)(w:World)(h:rB a b c=false) :
  Calls Tryz.prog 64 #[.agg #[.int .i64 a,.int .i64 b,.int .i64 c],.agg #[.int .i64 d,.int .i64 e,.int .i64 f]] w fun e w'=>e = .returned (.tuple #[.agg #[.int .i64 0,.int .i64 0,.int .i64 0],.int .i64 1])/\Below w.heap.size w w':=by
 go_enter Tryz.func64,Tryz.ntmps64
 go_wp2_with (go_at_call 109;refine (right_any _ _ _ _).mono ?_;rintro e w1 ⟨rfl,hb1⟩;obtain ⟨hc1,hf1⟩:=bcell hb1;have hz1a:w.heap.size<w1.heap.size:=sT hb1;have hz1b:w.heap.size+1<w1.heap.size:=sT hb1;have hz1c:w.heap.size+1+1<w1.heap.size:=sT hb1)
 exact bodyPost_ret (v:=.tuple #[.agg #[.int .i64 0,.int .i64 0,.int .i64 0],.int .i64 1]) (by simp [results,Tryz.results64,go_sem,hc1,hz1a,hz1b,hz1c]) rfl ⟨rfl,by (repeat' (first | (with_reducible exact Below.refl _ _) | (with_reducible refine Below.drew ?_) | (with_reducible refine Below.setCell ?_ ?_ _) | (with_reducible refine Below.alloc ?_ ?_ _) | (with_reducible refine Below.trans ?_ (Below.mono hb1 ?_)) | go_size))⟩

theorem sub_arg2 (a b c d e f:Int)(w:World)(h:rB a b c=true)(h2:rB d e f=false) :
  Calls Tryz.prog 64 #[.agg #[.int .i64 a,.int .i64 b,.int .i64 c],.agg #[.int .i64 d,.int .i64 e,.int .i64 f]] w fun e w'=>e = .returned (.tuple #[.agg #[.int .i64 0,.int .i64 0,.int .i64 0],.int .i64 1])/\Below w.heap.size w w':=by
 go_enter Tryz.func64,Tryz.ntmps64
 go_wp2_with fail
 refine (right_any _ _ _ _).mono ?_;rintro r w1 ⟨rfl,hb1⟩;obtain ⟨hc1,hf1⟩:=bcell hb1;have hz1a:w.heap.size<w1.heap.size:=sT hb1;have hz1b:w.heap.size+1<w1.heap.size:=sT hb1;have hz1c:w.heap.size+1+1<w1.heap.size:=sT hb1
 go_wp2_with fail
 refine (right_any _ _ _ _).mono ?_;rintro r w2 ⟨rfl,hb2⟩;obtain ⟨hc2,hf2⟩:=bcell hb2;have hz2a:w.heap.size<w2.heap.size:=sT hb2;have hz2b:w.heap.size+1<w2.heap.size:=sT hb2;have hz2c:w.heap.size+1+1<w2.heap.size:=sT hb2
 go_wp2
 exact bodyPost_ret (v:=.tuple #[.agg #[.int .i64 0,.int .i64 0,.int .i64 0],.int .i64 1]) (by simp [results,Tryz.results64,go_sem,hc1,hc2,hz1a,hz1b,hz1c,hz2a,hz2b,hz2c]) rfl ⟨rfl,by (repeat' (first | (with_reducible exact Below.refl _ _) | (with_reducible refine Below.drew ?_) | (with_reducible refine Below.setCell ?_ ?_ _) | (with_reducible refine Below.alloc ?_ ?_ _) | (with_reducible refine Below.trans ?_ (Below.mono hb1 ?_)) | (with_reducible refine Below.trans ?_ (Below.mono hb2 ?_)) | go_size))⟩

theorem sub_ok (a b c d e f:Int)(w:World)(h:rB a b c=true)(h2:rB d e f=true)(h3:rB (a - d) (b - e) (c - f)=true) :
  Calls Tryz.prog 64 #[.agg #[.int .i64 a,.int .i64 b,.int .i64 c],.agg #[.int .i64 d,.int .i64 e,.int .i64 f]] w fun r w'=>r = .returned (.tuple #[.agg #[.int .i64 (a - d),.int .i64 (b - e),.int .i64 (c - f)],.int .i64 0])/\Below w.heap.size w w':=by
 have i0:∀ w,(Instr.index 40 (.agg #[.int .i64 d,.int .i64 e,.int .i64 f]) (.int .i64 0)).run Tryz.prog w = .ok (.int .i64 d) w:=fun _=>by kernel_rfl
 have i1:∀ w,(Instr.index 40 (.agg #[.int .i64 d,.int .i64 e,.int .i64 f]) (.int .i64 1)).run Tryz.prog w = .ok (.int .i64 e) w:=fun _=>by kernel_rfl
 have i2:∀ w,(Instr.index 40 (.agg #[.int .i64 d,.int .i64 e,.int .i64 f]) (.int .i64 2)).run Tryz.prog w = .ok (.int .i64 f) w:=fun _=>by kernel_rfl
 obtain ⟨a0,a1,b0,b1,c0,c1⟩:=rB_bd h
 obtain ⟨d0,d1,e0,e1,f0,f1⟩:=rB_bd h2
 have H3:=Lib.hid h3;clear h3
 go_enter Tryz.func64,Tryz.ntmps64
 go_wp2_with fail
 refine (right_any _ _ _ _).mono ?_;rintro r w1 ⟨rfl,hb1⟩;have hz1a:w.heap.size<w1.heap.size:=sT hb1;have hz1b:w.heap.size+1<w1.heap.size:=sT hb1;have hz1c:w.heap.size+1+1<w1.heap.size:=sT hb1;have k1_00:w1.cell? ⟨w.heap.size,0,none⟩=some (.int .i64 a):=cT hb1;have m1_00:w1.frozen? ⟨w.heap.size,0,none⟩=false:=fT hb1;have k1_01:w1.cell? ⟨w.heap.size,1,none⟩=some (.int .i64 b):=cT hb1;have m1_01:w1.frozen? ⟨w.heap.size,1,none⟩=false:=fT hb1;have k1_02:w1.cell? ⟨w.heap.size,2,none⟩=some (.int .i64 c):=cT hb1;have m1_02:w1.frozen? ⟨w.heap.size,2,none⟩=false:=fT hb1;have k1_10:w1.cell? ⟨w.heap.size+1,0,none⟩=some (.int .i64 d):=cT hb1;have m1_10:w1.frozen? ⟨w.heap.size+1,0,none⟩=false:=fT hb1;have k1_11:w1.cell? ⟨w.heap.size+1,1,none⟩=some (.int .i64 e):=cT hb1;have m1_11:w1.frozen? ⟨w.heap.size+1,1,none⟩=false:=fT hb1;have k1_12:w1.cell? ⟨w.heap.size+1,2,none⟩=some (.int .i64 f):=cT hb1;have m1_12:w1.frozen? ⟨w.heap.size+1,2,none⟩=false:=fT hb1;have k1_20:w1.cell? ⟨w.heap.size+1+1,0,none⟩=some (.int .i64 0):=cT hb1;have m1_20:w1.frozen? ⟨w.heap.size+1+1,0,none⟩=false:=fT hb1;have k1_21:w1.cell? ⟨w.heap.size+1+1,1,none⟩=some (.int .i64 0):=cT hb1;have m1_21:w1.frozen? ⟨w.heap.size+1+1,1,none⟩=false:=fT hb1;have k1_22:w1.cell? ⟨w.heap.size+1+1,2,none⟩=some (.int .i64 0):=cT hb1;have m1_22:w1.frozen? ⟨w.heap.size+1+1,2,none⟩=false:=fT hb1
 go_wp2_with fail
 refine (right_any _ _ _ _).mono ?_;rintro r w2 ⟨rfl,hb2⟩;have hz2a:w.heap.size<w2.heap.size:=sT hb2;have hz2b:w.heap.size+1<w2.heap.size:=sT hb2;have hz2c:w.heap.size+1+1<w2.heap.size:=sT hb2;have k2_00:w2.cell? ⟨w.heap.size,0,none⟩=some (.int .i64 a):=cT hb2;have m2_00:w2.frozen? ⟨w.heap.size,0,none⟩=false:=fT hb2;have k2_01:w2.cell? ⟨w.heap.size,1,none⟩=some (.int .i64 b):=cT hb2;have m2_01:w2.frozen? ⟨w.heap.size,1,none⟩=false:=fT hb2;have k2_02:w2.cell? ⟨w.heap.size,2,none⟩=some (.int .i64 c):=cT hb2;have m2_02:w2.frozen? ⟨w.heap.size,2,none⟩=false:=fT hb2;have k2_10:w2.cell? ⟨w.heap.size+1,0,none⟩=some (.int .i64 d):=cT hb2;have m2_10:w2.frozen? ⟨w.heap.size+1,0,none⟩=false:=fT hb2;have k2_11:w2.cell? ⟨w.heap.size+1,1,none⟩=some (.int .i64 e):=cT hb2;have m2_11:w2.frozen? ⟨w.heap.size+1,1,none⟩=false:=fT hb2;have k2_12:w2.cell? ⟨w.heap.size+1,2,none⟩=some (.int .i64 f):=cT hb2;have m2_12:w2.frozen? ⟨w.heap.size+1,2,none⟩=false:=fT hb2;have k2_20:w2.cell? ⟨w.heap.size+1+1,0,none⟩=some (.int .i64 0):=cT hb2;have m2_20:w2.frozen? ⟨w.heap.size+1+1,0,none⟩=false:=fT hb2;have k2_21:w2.cell? ⟨w.heap.size+1+1,1,none⟩=some (.int .i64 0):=cT hb2;have m2_21:w2.frozen? ⟨w.heap.size+1+1,1,none⟩=false:=fT hb2;have k2_22:w2.cell? ⟨w.heap.size+1+1,2,none⟩=some (.int .i64 0):=cT hb2;have m2_22:w2.frozen? ⟨w.heap.size+1+1,2,none⟩=false:=fT hb2;clear k1_00 k1_01 k1_02 k1_10 k1_11 k1_12 k1_20 k1_21 k1_22 m1_00 m1_01 m1_02 m1_10 m1_11 m1_12 m1_20 m1_21 m1_22
 go_wp2_with fail
 refine wp_loop_rounds 4 ?_
 repeat any_goals (rw [rounds_succ];go_wp2_with fail)
 refine (result_ok _ _ _ _ H3.out).mono ?_;rintro r w3 ⟨rfl,hb3⟩;obtain ⟨hc3,hf3⟩:=bcell hb3;have hz3a:w.heap.size<w3.heap.size:=sT hb3;have hz3b:w.heap.size+1<w3.heap.size:=sT hb3;have hz3c:w.heap.size+1+1<w3.heap.size:=sT hb3
 go_wp2
 exact bodyPost_ret (v:=.tuple #[.agg #[.int .i64 (a - d),.int .i64 (b - e),.int .i64 (c - f)],.int .i64 0]) (by simp [results,Tryz.results64,go_sem,hc3,hz2a,hz2b,hz2c,k2_20,k2_21,k2_22]) rfl ⟨rfl,by (repeat' (first | (with_reducible exact Below.refl _ _) | (with_reducible refine Below.drew ?_) | (with_reducible refine Below.setCell ?_ ?_ _) | (with_reducible refine Below.alloc ?_ ?_ _) | (with_reducible refine Below.trans ?_ (Below.mono hb1 ?_)) | (with_reducible refine Below.trans ?_ (Below.mono hb2 ?_)) | (with_reducible refine Below.trans ?_ (Below.mono hb3 ?_)) | go_size))⟩

theorem sub_over (a b c d e f:Int)(w:World)(h:rB a b c=true)(h2:rB d e f=true)(h3:rB (a - d) (b - e) (c - f)=false) :
  Calls Tryz.prog 64 #[.agg #[.int .i64 a,.int .i64 b,.int .i64 c],.agg #[.int .i64 d,.int .i64 e,.int .i64 f]] w fun r w'=>r = .returned (.tuple #[.agg #[.int .i64 0,.int .i64 0,.int .i64 0],.int .i64 6])/\Below w.heap.size w w':=by
 have i0:∀ w,(Instr.index 40 (.agg #[.int .i64 d,.int .i64 e,.int .i64 f]) (.int .i64 0)).run Tryz.prog w = .ok (.int .i64 d) w:=fun _=>by kernel_rfl
 have i1:∀ w,(Instr.index 40 (.agg #[.int .i64 d,.int .i64 e,.int .i64 f]) (.int .i64 1)).run Tryz.prog w = .ok (.int .i64 e) w:=fun _=>by kernel_rfl
 have i2:∀ w,(Instr.index 40 (.agg #[.int .i64 d,.int .i64 e,.int .i64 f]) (.int .i64 2)).run Tryz.prog w = .ok (.int .i64 f) w:=fun _=>by kernel_rfl
 obtain ⟨a0,a1,b0,b1,c0,c1⟩:=rB_bd h
 obtain ⟨d0,d1,e0,e1,f0,f1⟩:=rB_bd h2
 have H3:=Lib.hid h3;clear h3
 go_enter Tryz.func64,Tryz.ntmps64
 go_wp2_with fail
 refine (right_any _ _ _ _).mono ?_;rintro r w1 ⟨rfl,hb1⟩;have hz1a:w.heap.size<w1.heap.size:=sT hb1;have hz1b:w.heap.size+1<w1.heap.size:=sT hb1;have hz1c:w.heap.size+1+1<w1.heap.size:=sT hb1;have k1_00:w1.cell? ⟨w.heap.size,0,none⟩=some (.int .i64 a):=cT hb1;have m1_00:w1.frozen? ⟨w.heap.size,0,none⟩=false:=fT hb1;have k1_01:w1.cell? ⟨w.heap.size,1,none⟩=some (.int .i64 b):=cT hb1;have m1_01:w1.frozen? ⟨w.heap.size,1,none⟩=false:=fT hb1;have k1_02:w1.cell? ⟨w.heap.size,2,none⟩=some (.int .i64 c):=cT hb1;have m1_02:w1.frozen? ⟨w.heap.size,2,none⟩=false:=fT hb1;have k1_10:w1.cell? ⟨w.heap.size+1,0,none⟩=some (.int .i64 d):=cT hb1;have m1_10:w1.frozen? ⟨w.heap.size+1,0,none⟩=false:=fT hb1;have k1_11:w1.cell? ⟨w.heap.size+1,1,none⟩=some (.int .i64 e):=cT hb1;have m1_11:w1.frozen? ⟨w.heap.size+1,1,none⟩=false:=fT hb1;have k1_12:w1.cell? ⟨w.heap.size+1,2,none⟩=some (.int .i64 f):=cT hb1;have m1_12:w1.frozen? ⟨w.heap.size+1,2,none⟩=false:=fT hb1;have k1_20:w1.cell? ⟨w.heap.size+1+1,0,none⟩=some (.int .i64 0):=cT hb1;have m1_20:w1.frozen? ⟨w.heap.size+1+1,0,none⟩=false:=fT hb1;have k1_21:w1.cell? ⟨w.heap.size+1+1,1,none⟩=some (.int .i64 0):=cT hb1;have m1_21:w1.frozen? ⟨w.heap.size+1+1,1,none⟩=false:=fT hb1;have k1_22:w1.cell? ⟨w.heap.size+1+1,2,none⟩=some (.int .i64 0):=cT hb1;have m1_22:w1.frozen? ⟨w.heap.size+1+1,2,none⟩=false:=fT hb1
 go_wp2_with fail
 refine (right_any _ _ _ _).mono ?_;rintro r w2 ⟨rfl,hb2⟩;have hz2a:w.heap.size<w2.heap.size:=sT hb2;have hz2b:w.heap.size+1<w2.heap.size:=sT hb2;have hz2c:w.heap.size+1+1<w2.heap.size:=sT hb2;have k2_00:w2.cell? ⟨w.heap.size,0,none⟩=some (.int .i64 a):=cT hb2;have m2_00:w2.frozen? ⟨w.heap.size,0,none⟩=false:=fT hb2;have k2_01:w2.cell? ⟨w.heap.size,1,none⟩=some (.int .i64 b):=cT hb2;have m2_01:w2.frozen? ⟨w.heap.size,1,none⟩=false:=fT hb2;have k2_02:w2.cell? ⟨w.heap.size,2,none⟩=some (.int .i64 c):=cT hb2;have m2_02:w2.frozen? ⟨w.heap.size,2,none⟩=false:=fT hb2;have k2_10:w2.cell? ⟨w.heap.size+1,0,none⟩=some (.int .i64 d):=cT hb2;have m2_10:w2.frozen? ⟨w.heap.size+1,0,none⟩=false:=fT hb2;have k2_11:w2.cell? ⟨w.heap.size+1,1,none⟩=some (.int .i64 e):=cT hb2;have m2_11:w2.frozen? ⟨w.heap.size+1,1,none⟩=false:=fT hb2;have k2_12:w2.cell? ⟨w.heap.size+1,2,none⟩=some (.int .i64 f):=cT hb2;have m2_12:w2.frozen? ⟨w.heap.size+1,2,none⟩=false:=fT hb2;have k2_20:w2.cell? ⟨w.heap.size+1+1,0,none⟩=some (.int .i64 0):=cT hb2;have m2_20:w2.frozen? ⟨w.heap.size+1+1,0,none⟩=false:=fT hb2;have k2_21:w2.cell? ⟨w.heap.size+1+1,1,none⟩=some (.int .i64 0):=cT hb2;have m2_21:w2.frozen? ⟨w.heap.size+1+1,1,none⟩=false:=fT hb2;have k2_22:w2.cell? ⟨w.heap.size+1+1,2,none⟩=some (.int .i64 0):=cT hb2;have m2_22:w2.frozen? ⟨w.heap.size+1+1,2,none⟩=false:=fT hb2;clear k1_00 k1_01 k1_02 k1_10 k1_11 k1_12 k1_20 k1_21 k1_22 m1_00 m1_01 m1_02 m1_10 m1_11 m1_12 m1_20 m1_21 m1_22
 go_wp2_with fail
 refine wp_loop_rounds 4 ?_
 repeat any_goals (rw [rounds_succ];go_wp2_with fail)
 refine (result_no _ _ _ _ H3.out).mono ?_;rintro r w3 ⟨rfl,hb3⟩;obtain ⟨hc3,hf3⟩:=bcell hb3;have hz3a:w.heap.size<w3.heap.size:=sT hb3;have hz3b:w.heap.size+1<w3.heap.size:=sT hb3;have hz3c:w.heap.size+1+1<w3.heap.size:=sT hb3
 go_wp2
 exact bodyPost_ret (v:=.tuple #[.agg #[.int .i64 0,.int .i64 0,.int .i64 0],.int .i64 6]) (by simp [results,Tryz.results64,go_sem,hc3,hz2a,hz2b,hz2c,k2_20,k2_21,k2_22]) rfl ⟨rfl,by (repeat' (first | (with_reducible exact Below.refl _ _) | (with_reducible refine Below.drew ?_) | (with_reducible refine Below.setCell ?_ ?_ _) | (with_reducible refine Below.alloc ?_ ?_ _) | (with_reducible refine Below.trans ?_ (Below.mono hb1 ?_)) | (with_reducible refine Below.trans ?_ (Below.mono hb2 ?_)) | (with_reducible refine Below.trans ?_ (Below.mono hb3 ?_)) | go_size))⟩
def kp (ok:Bool) (x:Int):Int:=if ok then x else 0
theorem kp_t (x:Int):kp true x=x:=rfl
def adB (a b c d e f:Int):Bool:=rB a b c && rB d e f && rB (a+d) (b+e) (c+f)
def adE (a b c d e f:Int):Int:=if rB a b c && rB d e f then (if rB (a+d) (b+e) (c+f) then 0 else 6) else 1
def sbB (a b c d e f:Int):Bool:=rB a b c && rB d e f && rB (a - d) (b - e) (c - f)
def sbE (a b c d e f:Int):Int:=if rB a b c && rB d e f then (if rB (a - d) (b - e) (c - f) then 0 else 6) else 1
theorem add_any (a b c d e f:Int)(w:World) :
  Calls Tryz.prog 65 #[.agg #[.int .i64 a,.int .i64 b,.int .i64 c],.agg #[.int .i64 d,.int .i64 e,.int .i64 f]] w fun r w'=>r = .returned (.tuple #[.agg #[.int .i64 (kp (adB a b c d e f) (a+d)),.int .i64 (kp (adB a b c d e f) (b+e)),.int .i64 (kp (adB a b c d e f) (c+f))],.int .i64 (adE a b c d e f)])/\Below w.heap.size w w':=by
 cases h1:rB a b c
 ·exact (add_arg1 a b c d e f w h1).mono fun _ _ ⟨he,hw⟩=>⟨by rw [he];simp [kp,adB,adE,h1],hw⟩
 ·cases h2:rB d e f
  ·exact (add_arg2 a b c d e f w h1 h2).mono fun _ _ ⟨he,hw⟩=>⟨by rw [he];simp [kp,adB,adE,h1,h2],hw⟩
  ·cases h3:rB (a+d) (b+e) (c+f)
   ·exact (add_over a b c d e f w h1 h2 h3).mono fun _ _ ⟨he,hw⟩=>⟨by rw [he];simp [kp,adB,adE,h1,h2,h3],hw⟩
   ·exact (add_ok a b c d e f w h1 h2 h3).mono fun _ _ ⟨he,hw⟩=>⟨by rw [he];simp [kp,adB,adE,h1,h2,h3],hw⟩
theorem sub_any (a b c d e f:Int)(w:World) :
  Calls Tryz.prog 64 #[.agg #[.int .i64 a,.int .i64 b,.int .i64 c],.agg #[.int .i64 d,.int .i64 e,.int .i64 f]] w fun r w'=>r = .returned (.tuple #[.agg #[.int .i64 (kp (sbB a b c d e f) (a - d)),.int .i64 (kp (sbB a b c d e f) (b - e)),.int .i64 (kp (sbB a b c d e f) (c - f))],.int .i64 (sbE a b c d e f)])/\Below w.heap.size w w':=by
 cases h1:rB a b c
 ·exact (sub_arg1 a b c d e f w h1).mono fun _ _ ⟨he,hw⟩=>⟨by rw [he];simp [kp,sbB,sbE,h1],hw⟩
 ·cases h2:rB d e f
  ·exact (sub_arg2 a b c d e f w h1 h2).mono fun _ _ ⟨he,hw⟩=>⟨by rw [he];simp [kp,sbB,sbE,h1,h2],hw⟩
  ·cases h3:rB (a - d) (b - e) (c - f)
   ·exact (sub_over a b c d e f w h1 h2 h3).mono fun _ _ ⟨he,hw⟩=>⟨by rw [he];simp [kp,sbB,sbE,h1,h2,h3],hw⟩
   ·exact (sub_ok a b c d e f w h1 h2 h3).mono fun _ _ ⟨he,hw⟩=>⟨by rw [he];simp [kp,sbB,sbE,h1,h2,h3],hw⟩
def fB (a b c d e f:Int):Bool:=decide (a<=d/\b<=e/\c<=f)

theorem fits_any (a b c d e f:Int)(w:World) :
  Calls Tryz.prog 27 #[.agg #[.int .i64 a,.int .i64 b,.int .i64 c],.agg #[.int .i64 d,.int .i64 e,.int .i64 f]] w fun r w'=>r = .returned (.bool (fB a b c d e f))/\Below w.heap.size w w':=by
 have i0:∀ w,(Instr.index 40 (.agg #[.int .i64 a,.int .i64 b,.int .i64 c]) (.int .i64 0)).run Tryz.prog w = .ok (.int .i64 a) w:=fun _=>by kernel_rfl
 have i1:∀ w,(Instr.index 40 (.agg #[.int .i64 a,.int .i64 b,.int .i64 c]) (.int .i64 1)).run Tryz.prog w = .ok (.int .i64 b) w:=fun _=>by kernel_rfl
 have i2:∀ w,(Instr.index 40 (.agg #[.int .i64 a,.int .i64 b,.int .i64 c]) (.int .i64 2)).run Tryz.prog w = .ok (.int .i64 c) w:=fun _=>by kernel_rfl
 have hfin:fB a b c d e f=decide (a<=d/\b<=e/\c<=f):=rfl
 rw [hfin]
 clear hfin
 rcases (show d<a ∨ a<=d by omega) with h1 | h1 <;> rcases (show e<b ∨ b<=e by omega) with h2 | h2 <;> rcases (show f<c ∨ c<=f by omega) with h3 | h3
 all_goals
  obtain ⟨v,hv⟩:∃ v,v=decide (a<=d/\b<=e/\c<=f):=⟨_,rfl⟩
  rw [<- hv]
  have HV:=Lib.hid hv;clear hv
  go_enter Tryz.func27,Tryz.ntmps27
  go_wp2_with fail
  refine wp_loop_rounds 4 ?_
  repeat any_goals (rw [rounds_succ];go_wp2_with fail)
  all_goals go_ret
  all_goals exact ⟨by rw [HV.out];simp;omega,by (repeat' (first | (with_reducible exact Below.refl _ _) | (with_reducible refine Below.drew ?_) | (with_reducible refine Below.setCell ?_ ?_ _) | (with_reducible refine Below.alloc ?_ ?_ _) | go_size))⟩
end
section
open Go.RowKit
def sm:Int->Int->Int->List (Int × Int × Int)->Int × Int × Int × Int
 | x,y,z,[]=>(x,y,z,0)
 | x,y,z,t :: l=>if adB x y z t.1 t.2.1 t.2.2 then sm (x+t.1) (y+t.2.1) (z+t.2.2) l else (0,0,0,adE x y z t.1 t.2.1 t.2.2)
theorem sm_nil (x y z:Int):sm x y z []=(x,y,z,0):=rfl
theorem sm_ok {x y z:Int}{t:Int × Int × Int}{l:List (Int × Int × Int)}(h:adB x y z t.1 t.2.1 t.2.2=true):sm x y z (t :: l)=sm (x+t.1) (y+t.2.1) (z+t.2.2) l:=by simp [sm,h]
theorem sm_no {x y z:Int}{t:Int × Int × Int}{l:List (Int × Int × Int)}(h:adB x y z t.1 t.2.1 t.2.2=false):sm x y z (t :: l)=(0,0,0,adE x y z t.1 t.2.1 t.2.2):=by simp [sm,h]
theorem adE_ok {a b c d e f:Int}(h:adB a b c d e f=true):adE a b c d e f=0:=by
 simp only [adB,Bool.and_eq_true] at h
 simp [adE,h]
theorem adE_no {a b c d e f:Int}(h:adB a b c d e f=false):adE a b c d e f=1 ∨ adE a b c d e f=6:=by
 unfold adE
 unfold adB at h
 cases h1:rB a b c && rB d e f
 ·exact .inl (by simp)
 ·rw [h1,Bool.true_and] at h
  exact .inr (by simp [h])
theorem add_true {a b c d e f:Int}(h:adB a b c d e f=true)(w:World) :
  Calls Tryz.prog 65 #[.agg #[.int .i64 a,.int .i64 b,.int .i64 c],.agg #[.int .i64 d,.int .i64 e,.int .i64 f]] w fun r w'=>r = .returned (.tuple #[.agg #[.int .i64 (a+d),.int .i64 (b+e),.int .i64 (c+f)],.int .i64 0])/\Below w.heap.size w w':=
 (add_any a b c d e f w).mono fun _ _ ⟨he,hw⟩=>⟨by rw [he,h,adE_ok h];rfl,hw⟩
theorem add_false {a b c d e f v:Int}(h:adB a b c d e f=false)(hv:adE a b c d e f=v)(w:World) :
  Calls Tryz.prog 65 #[.agg #[.int .i64 a,.int .i64 b,.int .i64 c],.agg #[.int .i64 d,.int .i64 e,.int .i64 f]] w fun r w'=>r = .returned (.tuple #[.agg #[.int .i64 0,.int .i64 0,.int .i64 0],.int .i64 v])/\Below w.heap.size w w':=
 (add_any a b c d e f w).mono fun _ _ ⟨he,hw⟩=>⟨by rw [he,h,hv];rfl,hw⟩
def RdV (w:World)(A:Option Addr)(l:List (Int × Int × Int)):Prop:=∀ i t,l[i]? = some t -> ∃ g o,A=some ⟨g,o,none⟩/\w.cell? ⟨g,o+i * 3,none⟩=some (.int .i64 t.1)/\w.cell? ⟨g,o+i * 3+1,none⟩=some (.int .i64 t.2.1)/\w.cell? ⟨g,o+i * 3+2,none⟩=some (.int .i64 t.2.2)
theorem RdV.below {w w':World}{A:Option Addr}{l:List (Int × Int × Int)}(h:RdV w A l)(hb:Below w.heap.size w w'):RdV w' A l:=fun i t ht=>by
 obtain ⟨g,o,ha,h0,h1,h2⟩:=h i t ht
 have hl:=World.block_lt_of_cell? w _ h0
 exact ⟨g,o,ha,(hb.cell (p:=⟨g,o+i * 3,none⟩) hl).trans h0,(hb.cell (p:=⟨g,o+i * 3+1,none⟩) hl).trans h1,(hb.cell (p:=⟨g,o+i * 3+2,none⟩) hl).trans h2⟩
end
section
open Go.RowKit
def ofQ (q:ByteArray)(l:List Jb):List (Int × Int × Int):=(l.filter fun j=>sE j.qu q).map Jb.need
theorem ofQ_yes {q:ByteArray}{l:List Jb}{k:Nat}(h:k<l.length)(he:sE l[k].qu q=true):ofQ q (l.drop k)=l[k].need :: ofQ q (l.drop (k+1)):=by
 unfold ofQ;rw [List.drop_eq_getElem_cons h,List.filter_cons_of_pos (p:=fun j:Jb=>sE j.qu q) he];rfl
theorem ofQ_no {q:ByteArray}{l:List Jb}{k:Nat}(h:k<l.length)(he:sE l[k].qu q=false):ofQ q (l.drop k)=ofQ q (l.drop (k+1)):=by
 unfold ofQ;rw [List.drop_eq_getElem_cons h,List.filter_cons_of_neg (p:=fun j:Jb=>sE j.qu q) (by simp [he])]

theorem used_any (A:Option Addr) (n cap:Nat)(l:List Jb)(q:ByteArray)(w:World)(hn:Hid (n=l.length))(hl:n<=9223372036854775807)(hA:Hid (RdJ w A l)) (x y z v:Int)(hs:Hid (sm 0 0 0 (ofQ q l)=(x,y,z,v))) :
  Calls Tryz.prog 26 #[.slice A n cap,.string q] w fun e w'=>e = .returned (.tuple #[.agg #[.int .i64 x,.int .i64 y,.int .i64 z],.int .i64 v])/\Below w.heap.size w w':=by
 go_enter Tryz.func26,Tryz.ntmps26
 have B4:Bk (w.alloc (.cells #[.int .i64 0,.int .i64 0,.int .i64 0] 40)) w.heap.size 40 #[.int .i64 0,.int .i64 0,.int .i64 0]:=Bk.fresh _ _ _
 go_wp2_with ((with_reducible refine store_bk rfl 40 (.tmp 6) (.tmp 11) rfl (w.heap.size+1) 0 #[.int .i64 0,.int .i64 0,.int .i64 0] rfl rfl 40 _ #[.int .i64 0,.int .i64 0,.int .i64 0] (Bk.freshAt _ _ _ (by simp)) (by kernel_rfl) (by simp) (by kernel_rfl) rfl ?_);intro w0 hB0 hg0 hs0)
 have hb0:Below w.heap.size w w0:=grown_below (((Below.refl _ _).alloc (Nat.le_refl _) _).alloc (by simp) _) hg0 (by omega)
 have hB4:Bk w0 w.heap.size 40 #[.int .i64 0,.int .i64 0,.int .i64 0]:=(B4.later ((Below.refl _ _).alloc (Nat.le_refl _) _)).stays hg0 (by simp)
 clear B4 hg0 hs0
 have HB4:=Lib.hid hB4;clear hB4
 have HB0:=Lib.hid hB0;clear hB0
 go_loopw [14] (fun i wr=>∃ (k:Nat) (p r s:Int),k<=n/\i = .int .i64 k/\Hid (sm p r s (ofQ q (l.drop k))=(x,y,z,v))/\Hid (Bk wr w.heap.size 40 #[.int .i64 0,.int .i64 0,.int .i64 0]) /\
   Hid (Bk wr (w.heap.size+1) 40 #[.int .i64 p,.int .i64 r,.int .i64 s])/\Below w.heap.size w wr) (fun i wr=>n - (intOf i).toNat)
 case atStart=>exact ⟨0,0,0,0,Nat.zero_le _,rfl,(show sm 0 0 0 (ofQ q (l.drop 0))=_ by simpa using hs.out),HB4,HB0,hb0⟩
 case round=>
  clear HB4 HB0 hb0
  obtain ⟨k,p,r,s,hk,rfl,HS,HB4,HB6,hb⟩:=hrel
  have lt1:w.heap.size+1<wr.heap.size:=HB6.out.here
  by_cases hlt:k<n
  ·have hlk:k<l.length:=by have:=hn.out;omega
   obtain ⟨g,o,rfl,hg,hj⟩:=(hA.out.later hb).at hlk
   obtain ⟨j,hjk⟩:∃ j,j=l[k]:=⟨_,rfl⟩
   rw [<- hjk] at hj
   have HJ:=Lib.hid hj;clear hj
   cases he:sE j.qu q
   ·have hfin:=HS.out
    rw [ofQ_no hlk (hjk ▸ he)] at hfin
    have HF:=Lib.hid hfin;clear hfin
    have he':(j.qu.toList == q.toList)=false:=he
    have HJK:=Lib.hid hjk;clear hjk he
    go_wp2_with (first | (with_reducible refine load_rg rfl 66 _ rfl g (o+k * 13) rfl j.arr _ HJ.out.rg Tryz.underlying66 rfl (by kernel_rfl) ?_) | ((with_reducible refine store_bk rfl 66 (.tmp 8) (.tmp 17) rfl wr.heap.size 0 j.arr rfl rfl 66 _ j.arr (Bk.fresh _ _ _) (by kernel_rfl) (by simp) (by kernel_rfl) rfl ?_);intro w1 hB1 hg1 hs1;have hn1:=hB1.cellAt 1;simp at hn1))
    go_round
    case rel=>exact ⟨k+1,p,r,s,by omega,by go_num,HF,(HB4.out.later ((Below.refl _ _).alloc (Nat.le_refl _) _)).stays hg1 (by simp;omega),(HB6.out.later ((Below.refl _ _).alloc (Nat.le_refl _) _)).stays hg1 (by simp;omega),grown_below (hb.alloc hb.size _) hg1 hb.size⟩
    case measure=>simp [intOf];omega
   ·obtain ⟨hd,hdef⟩:∃ t,t=ofQ q (l.drop (k+1)):=⟨_,rfl⟩
    have hfin:=HS.out
    rw [ofQ_yes hlk (hjk ▸ he),<- hjk,<- hdef] at hfin
    have HD:=Lib.hid hdef;clear hdef
    have he':(j.qu.toList == q.toList)=true:=he
    have HJK:=Lib.hid hjk;clear hjk he
    cases h:adB p r s j.a j.b j.c
    ·have hv:=adE_no h
     rw [sm_no h] at hfin
     simp only [Prod.mk.injEq] at hfin
     obtain ⟨rfl,rfl,rfl,hfv⟩:=hfin
     try simp only at hv
     rw [hfv] at hv
     have HH:=Lib.hid h;clear h
     have HV:=Lib.hid hfv;clear hfv
     rcases hv with rfl | rfl
     all_goals
      go_wp2_with (first | (with_reducible refine load_rg rfl 66 _ rfl g (o+k * 13) rfl j.arr _ HJ.out.rg Tryz.underlying66 rfl (by kernel_rfl) ?_) | ((with_reducible refine store_bk rfl 66 (.tmp 8) (.tmp 17) rfl wr.heap.size 0 j.arr rfl rfl 66 _ j.arr (Bk.fresh _ _ _) (by kernel_rfl) (by simp) (by kernel_rfl) rfl ?_);intro w1 hB1 hg1 hs1;have hn1:=hB1.cellAt 1;simp at hn1;have hb1:Below w.heap.size w w1:=grown_below (hb.alloc hb.size _) hg1 hb.size;have hB6:=(HB6.out.later ((Below.refl _ _).alloc (Nat.le_refl _) _)).stays hg1 (by simp;omega);have hB4:=(HB4.out.later ((Below.refl _ _).alloc (Nat.le_refl _) _)).stays hg1 (by simp;omega);have HB6':=Lib.hid hB6;have HB4':=Lib.hid hB4;have HBJ:=Lib.hid hB1;clear hB6 hB4 hB1 HB6 HB4) | (with_reducible refine load_bk rfl 40 _ rfl (w.heap.size+1) 0 rfl 40 #[.int .i64 p,.int .i64 r,.int .i64 s] #[.int .i64 p,.int .i64 r,.int .i64 s] _ HB6'.out (Part.whole _) Tryz.underlying40 rfl (by kernel_rfl) ?_) | (with_reducible refine load_bk rfl 40 _ rfl wr.heap.size 3 rfl 66 j.arr #[.int .i64 j.a,.int .i64 j.b,.int .i64 j.c] _ HBJ.out (Part.of rfl) Tryz.underlying40 rfl (by kernel_rfl) ?_))
      refine (add_false HH.out HV.out _).mono ?_;rintro r' w2 ⟨rfl,hb2⟩
      go_wp2_with (first | ((with_reducible refine store_bk rfl 40 (.tmp 9) (.tmp 29) rfl w2.heap.size 0 #[.int .i64 0,.int .i64 0,.int .i64 0] rfl rfl 40 _ #[.int .i64 0,.int .i64 0,.int .i64 0] (Bk.fresh _ _ _) (by kernel_rfl) (by simp) (by kernel_rfl) rfl ?_);intro w3 hB9 hg3 hs3;have HB9:=Lib.hid hB9;clear hB9;have hb3:Below w.heap.size w w3:=grown_below ((hb1.trans (hb2.mono hb1.size)).alloc (Nat.le_trans hb1.size hb2.size) _) hg3 (Nat.le_trans hb1.size hb2.size);have hB6:=((HB6'.out.later hb2).later ((Below.refl _ _).alloc (Nat.le_refl _) _)).stays hg3 (by have:=hb2.size;have:=hs1;simp at this ⊢;omega);have hB4:=((HB4'.out.later hb2).later ((Below.refl _ _).alloc (Nat.le_refl _) _)).stays hg3 (by have:=hb2.size;have:=hs1;simp at this ⊢;omega);have HB6:=Lib.hid hB6;have HB4:=Lib.hid hB4;clear hB6 hB4) | ((with_reducible refine store_bk rfl 40 (.tmp 4) (.tmp 33) rfl w.heap.size 0 #[.int .i64 0,.int .i64 0,.int .i64 0] rfl rfl 40 _ #[.int .i64 0,.int .i64 0,.int .i64 0] HB4.out (by kernel_rfl) (by simp) (by kernel_rfl) rfl ?_);intro w4 hB5 hg4 hs4))
      exact bodyPost_ret (v:=.tuple #[.agg #[.int .i64 0,.int .i64 0,.int .i64 0],.int .i64 _]) (results_bk2 Tryz.results26 _ _ w.heap.size 40 _ _ _ rfl rfl hB5 Tryz.underlying40 rfl (by kernel_rfl)) rfl ⟨rfl,grown_below hb3 hg4 (Nat.le_refl _)⟩
    ·rw [sm_ok h] at hfin
     have HF:=Lib.hid hfin;clear hfin
     have HH:=Lib.hid h;clear h
     go_wp2_with (first | (with_reducible refine load_rg rfl 66 _ rfl g (o+k * 13) rfl j.arr _ HJ.out.rg Tryz.underlying66 rfl (by kernel_rfl) ?_) | ((with_reducible refine store_bk rfl 66 (.tmp 8) (.tmp 17) rfl wr.heap.size 0 j.arr rfl rfl 66 _ j.arr (Bk.fresh _ _ _) (by kernel_rfl) (by simp) (by kernel_rfl) rfl ?_);intro w1 hB1 hg1 hs1;have hn1:=hB1.cellAt 1;simp at hn1;have hb1:Below w.heap.size w w1:=grown_below (hb.alloc hb.size _) hg1 hb.size;have hB6:=(HB6.out.later ((Below.refl _ _).alloc (Nat.le_refl _) _)).stays hg1 (by simp;omega);have hB4:=(HB4.out.later ((Below.refl _ _).alloc (Nat.le_refl _) _)).stays hg1 (by simp;omega);have HB6':=Lib.hid hB6;have HB4':=Lib.hid hB4;have HBJ:=Lib.hid hB1;clear hB6 hB4 hB1 HB6 HB4) | (with_reducible refine load_bk rfl 40 _ rfl (w.heap.size+1) 0 rfl 40 #[.int .i64 p,.int .i64 r,.int .i64 s] #[.int .i64 p,.int .i64 r,.int .i64 s] _ HB6'.out (Part.whole _) Tryz.underlying40 rfl (by kernel_rfl) ?_) | (with_reducible refine load_bk rfl 40 _ rfl wr.heap.size 3 rfl 66 j.arr #[.int .i64 j.a,.int .i64 j.b,.int .i64 j.c] _ HBJ.out (Part.of rfl) Tryz.underlying40 rfl (by kernel_rfl) ?_))
     refine (add_true HH.out _).mono ?_;rintro r' w2 ⟨rfl,hb2⟩
     go_wp2_with (first | ((with_reducible refine store_bk rfl 40 (.tmp 9) (.tmp 29) rfl w2.heap.size 0 #[.int .i64 (p+j.a),.int .i64 (r+j.b),.int .i64 (s+j.c)] rfl rfl 40 _ #[.int .i64 (p+j.a),.int .i64 (r+j.b),.int .i64 (s+j.c)] (Bk.fresh _ _ _) (by kernel_rfl) (by simp) (by kernel_rfl) rfl ?_);intro w3 hB9 hg3 hs3;have HB9:=Lib.hid hB9;clear hB9;have hb3:Below w.heap.size w w3:=grown_below ((hb1.trans (hb2.mono hb1.size)).alloc (Nat.le_trans hb1.size hb2.size) _) hg3 (Nat.le_trans hb1.size hb2.size);have hB6:=((HB6'.out.later hb2).later ((Below.refl _ _).alloc (Nat.le_refl _) _)).stays hg3 (by have:=hb2.size;have:=hs1;simp at this ⊢;omega);have hB4:=((HB4'.out.later hb2).later ((Below.refl _ _).alloc (Nat.le_refl _) _)).stays hg3 (by have:=hb2.size;have:=hs1;simp at this ⊢;omega);have HB6:=Lib.hid hB6;have HB4:=Lib.hid hB4;clear hB6 hB4) | (with_reducible refine load_bk rfl 40 _ rfl w2.heap.size 0 rfl 40 #[.int .i64 (p+j.a),.int .i64 (r+j.b),.int .i64 (s+j.c)] #[.int .i64 (p+j.a),.int .i64 (r+j.b),.int .i64 (s+j.c)] _ HB9.out (Part.whole _) Tryz.underlying40 rfl (by kernel_rfl) ?_) | ((with_reducible refine store_bk rfl 40 (.tmp 6) (.tmp 35) rfl (w.heap.size+1) 0 #[.int .i64 (p+j.a),.int .i64 (r+j.b),.int .i64 (s+j.c)] rfl rfl 40 _ #[.int .i64 (p+j.a),.int .i64 (r+j.b),.int .i64 (s+j.c)] HB6.out (by kernel_rfl) (by simp) (by kernel_rfl) rfl ?_);intro w4 hB7 hg4 hs4))
     go_round
     case rel=>exact ⟨k+1,p+j.a,r+j.b,s+j.c,by omega,by go_num,(show sm _ _ _ (ofQ q (l.drop (k+1)))=_ by rw [<- HD.out];exact HF.out),HB4.out.stays hg4 (by simp),hB7,grown_below hb3 hg4 (by omega)⟩
     case measure=>simp [intOf];omega
  ·have hk':k=n:=by omega
   subst hk'
   have hfin:=HS.out
   rw [hn.out,List.drop_length] at hfin
   simp only [ofQ,List.filter_nil,List.map_nil,sm_nil,Prod.mk.injEq] at hfin
   obtain ⟨rfl,rfl,rfl,rfl⟩:=hfin
   go_wp2_with (first | (with_reducible refine load_bk rfl 40 _ rfl (w.heap.size+1) 0 rfl 40 #[.int .i64 p,.int .i64 r,.int .i64 s] #[.int .i64 p,.int .i64 r,.int .i64 s] _ HB6.out (Part.whole _) Tryz.underlying40 rfl (by kernel_rfl) ?_) | ((with_reducible refine store_bk rfl 40 (.tmp 4) (.tmp 37) rfl w.heap.size 0 #[.int .i64 p,.int .i64 r,.int .i64 s] rfl rfl 40 _ #[.int .i64 p,.int .i64 r,.int .i64 s] HB4.out (by kernel_rfl) (by simp) (by kernel_rfl) rfl ?_);intro w1 hB1 hg1 hs1))
   exact bodyPost_ret (v:=.tuple #[.agg #[.int .i64 p,.int .i64 r,.int .i64 s],.int .i64 0]) (results_bk2 Tryz.results26 _ _ w.heap.size 40 _ _ _ rfl rfl hB1 Tryz.underlying40 rfl (by kernel_rfl)) rfl ⟨rfl,grown_below hb hg1 (Nat.le_refl _)⟩
end
section
open Go.RowKit
theorem sm_is:∀ {l:List (Int × Int × Int)}{p q r x y z v:Int},rB p q r=true->sm p q r l=(x,y,z,v)->(v=0/\rB x y z=true) ∨ ((v=1 ∨ v=6)/\x=0/\y=0/\z=0)
 | [],p,q,r,x,y,z,v,h,hs=>by
  rw [sm_nil] at hs;simp only [Prod.mk.injEq] at hs
  obtain ⟨rfl,rfl,rfl,rfl⟩:=hs
  exact .inl ⟨rfl,h⟩
 | t :: l,p,q,r,x,y,z,v,h,hs=>by
  cases ha:adB p q r t.1 t.2.1 t.2.2
  ·rw [sm_no ha] at hs;simp only [Prod.mk.injEq] at hs
   obtain ⟨rfl,rfl,rfl,hv⟩:=hs
   exact .inr ⟨hv ▸ adE_no ha,rfl,rfl,rfl⟩
  ·rw [sm_ok ha] at hs
   have h':rB (p+t.1) (q+t.2.1) (r+t.2.2)=true:=by simp only [adB,Bool.and_eq_true] at ha;exact ha.2
   exact sm_is h' hs
theorem adE_over {a b c d e f:Int}(h1:rB a b c=true)(h2:rB d e f=true)(h:adB a b c d e f=false):adE a b c d e f=6:=by
 have h3:rB (a+d) (b+e) (c+f)=false:=by unfold adB at h;rw [h1,h2] at h;simpa using h
 unfold adE;rw [h1,h2,h3];rfl
abbrev V3:=Int × Int × Int
def s1 (l:List V3):Int:=(l.map fun t=>t.1).sum
def s2 (l:List V3):Int:=(l.map fun t=>t.2.1).sum
def s3 (l:List V3):Int:=(l.map fun t=>t.2.2).sum
theorem s1_cons (t:V3)(l:List V3):s1 (t :: l)=t.1+s1 l:=by simp [s1]
theorem s2_cons (t:V3)(l:List V3):s2 (t :: l)=t.2.1+s2 l:=by simp [s2]
theorem s3_cons (t:V3)(l:List V3):s3 (t :: l)=t.2.2+s3 l:=by simp [s3]
theorem s1_append (l m:List V3):s1 (l ++ m)=s1 l+s1 m:=by induction l with
 | nil=>simp [s1]
 | cons t l ih=>rw [List.cons_append,s1_cons,s1_cons,ih];omega
theorem s2_append (l m:List V3):s2 (l ++ m)=s2 l+s2 m:=by induction l with
 | nil=>simp [s2]
 | cons t l ih=>rw [List.cons_append,s2_cons,s2_cons,ih];omega
theorem s3_append (l m:List V3):s3 (l ++ m)=s3 l+s3 m:=by induction l with
 | nil=>simp [s3]
 | cons t l ih=>rw [List.cons_append,s3_cons,s3_cons,ih];omega
def allR (l:List V3):Prop:=∀ t ∈ l,rB t.1 t.2.1 t.2.2=true
theorem allR_ge:∀ {l:List V3},allR l->0<=s1 l/\0<=s2 l/\0<=s3 l
 | [],_=>by simp [s1,s2,s3]
 | t :: l,h=>by
  have:=allR_ge (l:=l) fun u hu=>h u (by simp [hu])
  have:=rB_bd (h t (by simp))
  rw [s1_cons,s2_cons,s3_cons];omega
theorem sm_zero:∀ {l:List V3}{p q r x y z:Int},sm p q r l=(x,y,z,0)->allR l/\x=p+s1 l/\y=q+s2 l/\z=r+s3 l
 | [],p,q,r,x,y,z,h=>by
  rw [sm_nil] at h;simp only [Prod.mk.injEq] at h
  exact ⟨fun t ht=>by simp at ht,by simp [s1];omega,by simp [s2];omega,by simp [s3];omega⟩
 | t :: l,p,q,r,x,y,z,h=>by
  cases ha:adB p q r t.1 t.2.1 t.2.2
  ·rw [sm_no ha] at h;simp only [Prod.mk.injEq] at h
   have:=adE_no ha
   omega
  ·rw [sm_ok ha] at h
   obtain ⟨h1,h2,h3,h4⟩:=sm_zero h
   have hr:rB t.1 t.2.1 t.2.2=true:=by simp only [adB,Bool.and_eq_true] at ha;exact ha.1.2
   refine ⟨fun u hu=>(List.mem_cons.1 hu).elim (fun e=>e ▸ hr) (h1 u),?_,?_,?_⟩
   ·rw [s1_cons];omega
   ·rw [s2_cons];omega
   ·rw [s3_cons];omega
theorem sm_mk:∀ {l:List V3}{p q r:Int},rB p q r=true->allR l->rB (p+s1 l) (q+s2 l) (r+s3 l)=true->sm p q r l=(p+s1 l,q+s2 l,r+s3 l,0)
 | [],p,q,r,_,_,_=>by rw [sm_nil];simp [s1,s2,s3]
 | t :: l,p,q,r,h0,h1,h2=>by
  have hl:allR l:=fun u hu=>h1 u (by simp [hu])
  have ht:=h1 t (by simp)
  have g:=allR_ge hl
  have k0:=rB_bd h0
  have k1:=rB_bd ht
  have k2:=rB_bd h2
  rw [s1_cons,s2_cons,s3_cons] at k2 h2 ⊢
  have ha:rB (p+t.1) (q+t.2.1) (r+t.2.2)=true:=rB_mk (by omega)
  have hb:adB p q r t.1 t.2.1 t.2.2=true:=by unfold adB;rw [h0,ht,ha];rfl
  rw [sm_ok hb,sm_mk ha hl (by rw [Int.add_assoc,Int.add_assoc,Int.add_assoc];exact h2)]
  rw [Int.add_assoc,Int.add_assoc,Int.add_assoc]
end
end Go.Proofs.YtccccbofcnmdiaaGreat
