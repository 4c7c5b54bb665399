/- Lemmas that the law stands on. No condition. -/
import Derived.Test.YtlodjgcnffmniaaGreatM52
namespace Go.Proofs.YtlodjgcnffmniaaGreat
set_option linter.unusedSimpArgs false
set_option linter.unusedVariables false
set_option maxRecDepth 100000
set_option maxHeartbeats 51200000
section
open Go.RowKit
theorem noText0:∀ (j:Nat) (s:ByteArray),(#[.int .i64 0,.slice none 0 0]:Array Value)[j]? ≠ some (Value.string s):=by
 intro j s h
 match j,h with
 | 0,h=>simp at h
 | 1,h=>simp at h
 | j+2,h=>simp at h
section
variable {o:Oper} {a:Act} {w:World} {K:Act->World->Prop} {Q:Exit->Act->World->Prop}
theorem acell_op (ho:o.op = .alloc 36) (h:∀ g w',g=w.heap.size->Bk w' g 36 #[.int .i64 0,.slice none 0 0]->Below w.heap.size w w' -> K (a.put o.dst (.pointer (some ⟨g,0,none⟩))) w'):o.wp Tryz.prog a w K Q:=by
 unfold Oper.wp execOp
 simp only [ho]
 go_simp
 exact h _ _ rfl (Bk.fresh w _ _) ((Below.refl _ _).alloc (Nat.le_refl _) _)
end
def Off (F K:Nat->Prop) (w9:World) (p:Nat):Prop:=¬ F p /\ ¬ K p/\w9.heap.size<=p
theorem RetL.later {b:Nat} {w w':World} {A:Option Addr} {n c:Nat} {l:List Ac} (h:RetL b w A n c l) (hb:Below w.heap.size w w'):RetL b w' A n c l:=⟨h.1,h.2.1.later hb,h.2.2⟩
theorem RetL.grp {b:Nat} {w w':World} {A:Option Addr} {n c:Nat} {l:List Ac} {p:Nat->Prop} (h:RetL b w A n c l) (hg:GrP p w w') (hp:∀ k,p k->k<b):RetL b w' A n c l:=⟨h.1,h.2.1.grp hg (fun a ha e=>by have h1:=h.2.2.2.2 a ha;have h2:=hp _ e;omega),h.2.2⟩
theorem RetL.aside {b p:Nat} {w w':World} {A:Option Addr} {n c:Nat} {l:List Ac} {t:TypeId} {cs:Array Value} (h:RetL b w A n c l) (hB:Bk w p t cs) (hcs:∀ (j:Nat) (s:ByteArray),cs[j]? ≠ some (Value.string s)) (hg:w.grownBy w' (some p)):RetL b w' A n c l:=⟨h.1,h.2.1.aside hB hcs hg,h.2.2⟩
def Cut15 (w w9:World) (g h:Nat) (F Ky:Nat->Prop) (S:Sg) (x:Oz) (m:Int) (wx:World) (s9 s10:Value):Prop:=∃ (p9 p10:Nat) (A1:Option Addr) (n1 c1:Nat) (A2:Option Addr) (n2 c2:Nat) (F1 K1:Nat->Prop),s9 = .pointer (some ⟨p9,0,none⟩)/\s10 = .pointer (some ⟨p10,0,none⟩)/\GrP (fun k=>F k ∨ Ky k) w9 wx/\Tg w wx g h F1 K1 (stF S x.v).1 (stF S x.v).1 (m+1001000) (m+1001000)/\Bk wx p9 36 #[.int .i64 (stF S x.v).2.1,.slice A1 n1 c1]/\Bk wx p10 36 #[.int .i64 (stF S x.v).2.1,.slice A2 n2 c2]/\RetL w9.heap.size wx A1 n1 c1 (stF S x.v).2.2/\RetL w9.heap.size wx A2 n2 c2 (stF S x.v).2.2/\(∀ k,F1 k->F k ∨ w9.heap.size<=k) /\ ∀ k,K1 k->Ky k ∨ w9.heap.size<=k
theorem haltW {P:Program} {ops:Array Oper} {rest:List Oper} {a:Act} {w:World} {Q:Exit->Act->World->Prop} (h:Hid (wpList P ops Q rest a w)):wpList P ops Q rest a w:=h.out
theorem Below.alloc1 (w:World) (o:Obj):Below w.heap.size w (w.alloc o):=(Below.refl _ _).alloc (Nat.le_refl _) _
def RetTs (b:Nat) (w:World) (e:Ending) (S:Sg):Prop:=∃ (v:Sv) (S':Sg),e = .returned (.agg v.arr)/\OwnS w b (.slice v.A v.N v.cA) (.slice v.B v.K v.cB) (.slice v.C v.n v.cC) S' /\ RdSt w v S' /\ S'.bare=S.bare/\v.ck=S'.ck/\v.nx=S'.nx
theorem gx_state2 (b g:Nat) (F:Nat->Prop) (m:Int) (S:Sg) (w:World) (hG:Gx w b g F S) (hI:In2 m S) :
  Calls Tryz.prog 20 #[.pointer (some ⟨g,0,none⟩)] w fun e w'=>RetTs w.heap.size w' e S/\Below w.heap.size w w':=by
 refine (gx_state b g F m S w hG hI).mono ?_
 rintro e w' ⟨⟨uM,uQ,uJ,S',rfl,hO,hbr⟩,-,hb⟩
 obtain ⟨⟨ck,nx,A,N,cA,B,K,cB,C,n,cC⟩,hva,hvr⟩:=hO.rd
 have hv1:.slice A N cA=uM:=congrArg (fun a:Array Value=>a.getD 2 undef) hva
 have hv2:.slice B K cB=uQ:=congrArg (fun a:Array Value=>a.getD 3 undef) hva
 have hv3:.slice C n cC=uJ:=congrArg (fun a:Array Value=>a.getD 4 undef) hva
 subst hv1 hv2 hv3
 have hck:S.ck=S'.ck:=(congrArg Sg.ck hbr:S'.bare.ck=S.bare.ck).symm
 have hnx:S.nx=S'.nx:=(congrArg Sg.nx hbr:S'.bare.nx=S.bare.nx).symm
 exact ⟨⟨⟨S.ck,S.nx,A,N,cA,B,K,cB,C,n,cC⟩,S',rfl,hO,hO.rdOf hck hnx,hbr,hck,hnx⟩,hb⟩
theorem tg_state1 {w wr:World} {g h:Nat} {F K:Nat->Prop} {S T:Sg} {m m2:Int} (H:Tg w wr g h F K S T m m2) :
  Calls Tryz.prog 20 #[.pointer (some ⟨g,0,none⟩)] wr fun e w'=>RetTs wr.heap.size w' e S/\Below wr.heap.size wr w':=gx_state2 _ g F m S wr H.g1 H.i1
theorem tg_state2 {w wr:World} {g h:Nat} {F K:Nat->Prop} {S T:Sg} {m m2:Int} (H:Tg w wr g h F K S T m m2) :
  Calls Tryz.prog 20 #[.pointer (some ⟨h,0,none⟩)] wr fun e w'=>RetTs wr.heap.size w' e T/\Below wr.heap.size wr w':=gx_state2 _ h K m2 T wr H.g2 H.i2
namespace gen1Keeps


theorem walk (B0:Option Addr) (N cap:Nat) (z:List Oz) (w:World) (hn0:N=z.length) (hr0:RdK w 21 B0 (z.map eZ)) (hc1:N<=cap) (hc2:cap<=9223372036854775807) (ho0:∀ x ∈ z,OzOk w x) :
  Calls Tryz.prog 8 #[.slice B0 N cap] w fun r w'=>r = .returned (.bool true)/\Below w.heap.size w w':=by
 have K1:=Lib.hid (fun W=>awake15_any W)
 have K7:=Lib.hid (fun (A:Option Addr) (n c:Nat) (l:List Oz) (W:World) (hn:n=l.length) (hm:n<=9223372036854775807) (hr:RdOps W A l)=>few15_any A n c l W (Lib.hid hn) hm (Lib.hid hr))
 have HN:=Lib.hid hn0
 have HRD:Hid (RdOps w B0 z):=⟨hr0,ho0⟩
 have HNM:Hid (N<=9223372036854775807):=by show _<=_;omega
 have HNC:Hid (N<=cap/\cap<=9223372036854775807):=⟨hc1,hc2⟩
 clear hn0 hr0 ho0 hc1 hc2
 go_enter Tryz.func8,Tryz.ntmps8
 go_wp2_with fail
 refine (K1.out _).mono ?_;rintro e w1 ⟨rfl,hb1⟩
 have HB1:=Lib.hid hb1
 clear hb1
 go_wp2_with fail
 refine (K7.out B0 N cap z _ HN.out HNM.out (HRD.out.later HB1.out)).mono ?_;rintro e w2 ⟨⟨b,rfl,hfew⟩,hb2⟩
 have HB2:=Lib.hid (HB1.out.trans (hb2.mono HB1.out.size))
 clear hb2 HB1 HNM
 cases b with
 | false=>
  go_wp2_with fail
  refine (K1.out _).mono ?_;rintro e w3 ⟨rfl,hb3⟩
  go_wp2_with fail
  go_ret
  exact ⟨rfl,HB2.out.trans (hb3.mono HB2.out.size)⟩
 | true=>
  have HN150:Hid (N<=150):=(hfew rfl).1
  have HSM:Hid (∀ x ∈ z,x.m1<=20/\x.m3<=20):=(hfew rfl).2
  clear hfew
  go_wp2_with fail
  refine (tg_new1 w w2 HB2.out).mono ?_;rintro e w3 ⟨rfl,hX3,hb3⟩
  obtain ⟨g,hg⟩:∃ g,g=w2.heap.size:=⟨_,rfl⟩
  rw [<- hg] at hX3 ⊢
  have HB3:=Lib.hid (HB2.out.trans (hb3.mono HB2.out.size))
  have HX3:=Lib.hid hX3
  have HG0:=Lib.hid hg
  have HSZ:=Lib.hid hb3.size
  clear hX3 hb3 hg
  go_wp2_with fail
  refine (tg_new1 w w3 HB3.out).mono ?_;rintro e w4 ⟨rfl,hX4,hb4⟩
  obtain ⟨h,hh⟩:∃ h,h=w3.heap.size:=⟨_,rfl⟩
  have HT4:Hid (Tg w w4 g h (fun k=>g<=k/\k<w3.heap.size) (fun k=>w3.heap.size<=k/\k<w4.heap.size) Sg.new Sg.new 0 0):=by
   refine ⟨HX3.out.below hb4,by rw [hh];exact hX4,fun k h1 h2=>by omega,fun k hk=>?_,fun k hk=>⟨Nat.le_trans HB3.out.size hk.1,hk.2⟩,in2_new,in2_new,HB3.out.trans (hb4.mono HB3.out.size)⟩
   have h1:=HB2.out.size;have h2:=HG0.out;have h3:=hb4.size;omega
  rw [<- hh]
  clear hX4 hb4 hh HX3 HB3 HB2 HG0 HSZ
  go_wp2_with fail
  go_loopw [35] (fun s35 wr=>∃ (i:Nat) (F Ky:Nat->Prop) (S:Sg),i<=N/\s35 = .int .i64 i/\Hid (Tg w wr g h F Ky S S (1001000 * (i:Int)) (1001000 * (i:Int)))) (fun s35 wr=>N - (intOf s35).toNat)
  case atStart=>exact ⟨0,_,_,_,Nat.zero_le _,rfl,HT4⟩
  case round=>
   clear HT4
   obtain ⟨i,F,Ky,S,hi,rfl,HT⟩:=hrel
   by_cases hin:i<N
   ·skip
    have hil:Hid (i<z.length):=by show i<z.length;rw [<- HN.out];exact hin
    obtain ⟨x,hx⟩:∃ x,x=z[i]'hil.out:=⟨_,rfl⟩
    obtain ⟨q,o,hA,hrg⟩:=HRD.out.rd.at (i:=i) (by rw [List.length_map];exact hil.out)
    rw [List.getElem_map,<- hx] at hrg
    subst hA
    have hxm:x ∈ z:=by rw [hx];exact List.getElem_mem _
    have HOKW:=Lib.hid (HRD.out.ok x hxm)
    have hsm:=HSM.out x hxm
    have hm1:x.m1<=20:=hsm.1
    have hm3:x.m3<=20:=hsm.2
    have hml1:x.m1=x.v.l1.length:=HOKW.out.l1.len
    have hml3:x.m3=x.v.l3.length:=HOKW.out.l3.len
    have hp1:x.m1<=x.p1:=HOKW.out.l1.cap
    have hp12:x.p1<=9223372036854775807:=HOKW.out.l1.cap2
    have hp3:x.m3<=x.p3:=HOKW.out.l3.cap
    have hp32:x.p3<=9223372036854775807:=HOKW.out.l3.cap2
    have HM1:=Lib.hid hm1;have HM3:=Lib.hid hm3
    have HL1:Hid (x.v.l1.length<=1000):=by show _<=_;omega
    have HL3:Hid (x.v.l3.length<=1000):=by show _<=_;omega
    have HLN1:Hid (x.m1=(cellsLb x.v.l1).length):=by show _=_;rw [cellsLb_length];exact hml1
    have HLN3:Hid (x.m3=(cellsLb x.v.l3).length):=by show _=_;rw [cellsLb_length];exact hml3
    have HLA1:Hid (([]:List (List Value)).length+(cellsLb x.v.l1).length<=maxLen):=by show _<=_;rw [cellsLb_length];simp only [List.length_nil,maxLen];omega
    have HLA3:Hid (([]:List (List Value)).length+(cellsLb x.v.l3).length<=maxLen):=by show _<=_;rw [cellsLb_length];simp only [List.length_nil,maxLen];omega
    have HLC1:Hid ((([]:List (List Value)).length+(cellsLb x.v.l1).length) * 32<=140737488355328):=by show _<=_;rw [cellsLb_length];simp only [List.length_nil];omega
    have HLC3:Hid ((([]:List (List Value)).length+(cellsLb x.v.l3).length) * 32<=140737488355328):=by show _<=_;rw [cellsLb_length];simp only [List.length_nil];omega
    have hqb:q<w.heap.size:=World.block_lt_of_cell? w _ (hrg 0 _ rfl)
    have HRG:Hid (w.rangeAt q (o+i * 21) x.arr.toList):=hrg
    have HC5:Hid (∀ W,Below w.heap.size w W->W.cell? ⟨q,o+i * 21+5,none⟩=some (.slice x.A1 x.m1 x.p1)):=fun W hb=>range_keep HRG.out hb 5 _ rfl
    have HC16:Hid (∀ W,Below w.heap.size w W->W.cell? ⟨q,o+i * 21+16,none⟩=some (.slice x.A3 x.m3 x.p3)):=fun W hb=>range_keep HRG.out hb 16 _ rfl
    have hii:(i:Int)<(N:Int):=by omega
    have hm0:(0:Int)<=1001000 * (i:Int):=Int.mul_nonneg (by decide) (Int.natCast_nonneg i)
    have HMM:Hid (1001000 * (i:Int)<=1152921504606846976):=by show _<=_;have:=HN150.out;omega
    have hw1:wrap64 ((i:Int)+1)=((i+1:Nat):Int):=by have:=HN150.out;unfold wrap64;omega
    clear hx hrg hxm hsm hml1 hml3 hm1 hm3 hil
    have hc5:=HC5.out wr HT.out.be
    have hqr:q<wr.heap.size:=Nat.lt_of_lt_of_le hqb HT.out.be.size
    go_upto_region 14 with (first | ((with_reducible refine append_kn _ rfl (.tmp 38) (.tmp 44) 41 rfl wr.heap.size 70 _ 2 32 Tryz.underlying41 infoL15 rfl (by omega) (.slice (some ⟨wr.heap.size,0,none⟩) 0 0) [] rfl (OwnK.empty wr wr.heap.size 70 2 (Nat.le_refl _) rfl) x.A1 x.p1 x.m1 (cellsLb x.v.l1) rfl (RdK.later (HOKW.out.l1.rd.rdk.later HT.out.be) (Below.alloc1 wr _)) (cellsLb_k _) (cellsLb_one _) HLN1.out HLA1.out HLC1.out (by simp) ?_);intro v5 wv5 hOv5 hgv5;have HOv5:Hid (OwnK wv5 wr.heap.size 70 2 v5 (cellsLb x.v.l1)):=(show OwnK wv5 wr.heap.size 70 2 v5 (cellsLb x.v.l1) from hOv5);have HBv5:Hid (Below wr.heap.size wr wv5):=((Below.refl _ _).alloc (Nat.le_refl _) _).grown hgv5 (by simp) (by intro k hk;simp [Value.ownBlock] at hk;omega);clear hOv5 hgv5;obtain ⟨Ah,ch,e5,-,-,-,-⟩:=HOv5.out.sl;rw [<- HLN1.out] at e5;subst e5;have HBW5:Hid (Below w.heap.size w wv5):=HT.out.be.trans (HBv5.out.mono HT.out.be.size);have hc16:=HC16.out wv5 HBW5.out;have hqr5:q<wv5.heap.size:=Nat.lt_of_lt_of_le hqb HBW5.out.size) | ((with_reducible refine append_kn _ rfl (.tmp 46) (.tmp 52) 41 rfl wv5.heap.size 70 _ 2 32 Tryz.underlying41 infoL15 rfl (by omega) (.slice (some ⟨wv5.heap.size,0,none⟩) 0 0) [] rfl (OwnK.empty wv5 wv5.heap.size 70 2 (Nat.le_refl _) rfl) x.A3 x.p3 x.m3 (cellsLb x.v.l3) rfl (RdK.later (RdK.later HOKW.out.l3.rd.rdk HBW5.out) (Below.alloc1 wv5 _)) (cellsLb_k _) (cellsLb_one _) HLN3.out HLA3.out HLC3.out (by simp) ?_);intro v6 wv6 hOv6 hgv6;have HOv6:Hid (OwnK wv6 wv5.heap.size 70 2 v6 (cellsLb x.v.l3)):=(show OwnK wv6 wv5.heap.size 70 2 v6 (cellsLb x.v.l3) from hOv6);have HBv6:Hid (Below wv5.heap.size wv5 wv6):=((Below.refl _ _).alloc (Nat.le_refl _) _).grown hgv6 (by simp) (by intro k hk;simp [Value.ownBlock] at hk;omega);clear hOv6 hgv6;obtain ⟨Aw,cw,e6,-,-,-,-⟩:=HOv6.out.sl;rw [<- HLN3.out] at e6;subst e6;have HBW6:Hid (Below w.heap.size w wv6):=HBW5.out.trans (HBv6.out.mono HBW5.out.size)) | (with_reducible refine load_rg rfl 49 _ rfl q (o+i * 21) rfl x.arr _ (range_keep HRG.out HBW6.out) Tryz.underlying49 rfl (by kernel_rfl) ?_) | ((with_reducible refine store_bk rfl 49 (.tmp 8) (.tmp 57) rfl wv6.heap.size 0 x.arr rfl rfl 49 _ x.arr (Bk.fresh _ _ _) (by kernel_rfl) (by simp) (by kernel_rfl) rfl ?_);intro w7 hB7 hg7 hs7;have HB7:=Lib.hid hB7;have HL7:Hid (Below wv6.heap.size wv6 w7):=((Below.refl _ _).alloc (Nat.le_refl _) _).grown hg7 (by simp) (by intro k hk;injection hk with hk;omega);clear hB7 hg7 hs7) | ((with_reducible refine store1_bk rfl 41 (.tmp 60) (.tmp 58) rfl wv6.heap.size 5 (.slice Ah x.m1 ch) rfl rfl 49 _ (⟨x.v,Ah,x.m1,ch,x.A3,x.m3,x.p3⟩:Oz).arr HB7.out (by kernel_rfl) (by simp) rfl rfl rfl ?_);intro w8 hBw8 hgw8 hsw8;have HBw8:=Lib.hid hBw8;have HLw8:Hid (Below wv6.heap.size wv6 w8):=HL7.out.grown hgw8 HL7.out.size (by intro k hk;injection hk with hk;omega);clear hBw8 hgw8 hsw8) | ((with_reducible refine store1_bk rfl 41 (.tmp 63) (.tmp 61) rfl wv6.heap.size 16 (.slice Aw x.m3 cw) rfl rfl 49 _ (⟨x.v,Ah,x.m1,ch,Aw,x.m3,cw⟩:Oz).arr HBw8.out (by kernel_rfl) (by simp) rfl rfl rfl ?_);intro w9 hBw9 hgw9 hsw9;have HBw9:=Lib.hid hBw9;have HLw9:Hid (Below wv6.heap.size wv6 w9):=HLw8.out.grown hgw9 HLw8.out.size (by intro k hk;injection hk with hk;omega);clear hBw9 hgw9 hsw9))
    try simp only [Act.put]
    have HP8:=HBw9
    have HB96:Hid (Below wr.heap.size wr w9):=HBv5.out.trans ((HBv6.out.trans (HLw9.out.mono HBv6.out.size)).mono HBv5.out.size)
    have HB9:Hid (Below w.heap.size w w9):=HT.out.be.trans (HB96.out.mono HT.out.be.size)
    obtain ⟨p8,hp8⟩:∃ p,p=wv6.heap.size:=⟨_,rfl⟩
    rw [<- hp8] at HP8 ⊢
    have HT9:=Lib.hid (HT.out.below HB96.out)
    have HFL:Hid (∀ k,F k ∨ Ky k->w.heap.size<=k/\k<wr.heap.size):=fun k hk=>hk.elim (HT.out.b1 k) (HT.out.b2 k)
    have HSZ5:Hid (wr.heap.size<=wv5.heap.size/\wv5.heap.size<=wv6.heap.size):=⟨HBv5.out.size,HBv6.out.size⟩
    have HNP8:Hid (¬ (F p8 ∨ Ky p8)):=fun e=>by have h1:=(HFL.out _ e).2;have h2:=HSZ5.out;omega
    have HKL:Hid (∀ k,Ky k->k<w9.heap.size):=fun k hk=>Nat.lt_of_lt_of_le (HFL.out k (.inr hk)).2 HB96.out.size
    have HOA9:Hid (LbNew w9 wr.heap.size Ah x.m1 ch x.v.l1):=⟨(HOv5.out.below HBv6.out).below HLw9.out,HOKW.out.l1.sz⟩
    have HOB9:Hid (LbNew w9 wr.heap.size Aw x.m3 cw x.v.l3):=⟨(HOv6.out.below HLw9.out).base HSZ5.out.1,HOKW.out.l3.sz⟩
    have HGA:Hid (∀ W,GrP (fun k=>F k ∨ Ky k) w9 W->LbNew W wr.heap.size Ah x.m1 ch x.v.l1):=fun W hG=>⟨HOA9.out.own.grp hG fun k hk e=>by have h1:=HOA9.out.own.block k hk;have h2:=(HFL.out _ e).2;omega,HOA9.out.sz⟩
    have HGB:Hid (∀ W,GrP (fun k=>F k ∨ Ky k) w9 W->LbNew W wr.heap.size Aw x.m3 cw x.v.l3):=fun W hG=>⟨HOB9.out.own.grp hG fun k hk e=>by have h1:=HOB9.out.own.block k hk;have h2:=(HFL.out _ e).2;omega,HOB9.out.sz⟩
    have HGW:Hid (∀ W,GrP (fun k=>F k ∨ Ky k) w9 W->Below w.heap.size w W):=fun W hG=>HB9.out.trans (hG.below HB9.out.size fun k hk=>(HFL.out k hk).1)
    have HZXO:Hid (∀ W,GrP (fun k=>F k ∨ Ky k) w9 W->OzOk W (⟨x.v,Ah,x.m1,ch,Aw,x.m3,cw⟩:Oz)):=fun W hG=>⟨(HGA.out W hG).ok,(HGB.out W hG).ok,HOKW.out.nn,HOKW.out.qn,HOKW.out.tn,HOKW.out.tq,HOKW.out.ta,HOKW.out.tg,HOKW.out.s⟩
    have HZX:Hid (∀ W,GrP (fun k=>F k ∨ Ky k) w9 W->OzOk W x):=fun W hG=>HOKW.out.later (HGW.out W hG)
    have HXR:Hid (∀ W,GrP (fun k=>F k ∨ Ky k) w9 W->W.rangeAt q (o+i * 21) x.arr.toList):=fun W hG=>range_keep HRG.out (HGW.out W hG)
    have HRW:Hid (∀ gl,(Ah=some ⟨gl,0,none⟩ ∨ Aw=some ⟨gl,0,none⟩)->w.heap.size<=gl/\wr.heap.size<=gl/\gl<w9.heap.size):=fun gl hgl=>by
     have hb:=HT.out.be.size
     rcases hgl with e | e
     ·have h1:=HOA9.out.own.block gl (by rw [e];rfl);have h2:gl<w9.heap.size:=HOA9.out.own.lt (by rw [e];rfl);omega
     ·have h1:=HOB9.out.own.block gl (by rw [e];rfl);have h2:gl<w9.heap.size:=HOB9.out.own.lt (by rw [e];rfl);omega
    clear HOv5 HOv6 HBv5 HBv6 HB7 HL7 HBw8 HLw8 HBw9 HLw9 HBW5 HBW6 hc5 hqr hc16 hqr5 hp8 HT HOA9 HOB9 HLN1 HLN3 HLA1 HLA3 HLC1 HLC3 HC5 HC16
    go_cut [9,10] (fun s9 s10 wx=>Cut15 w w9 g h F Ky S x (1001000 * (i:Int)) wx s9 s10)
    case first=>
     refine wp_region_held_drew (S:=fun W=>GrP (fun k=>F k ∨ Ky k) w9 W) (by kernel_rfl) (GrP.ofBelow (Below.drew (Below.refl _ _))) (fun hS0=>?_)
     refine wpAnyH_take (i:=0) (v:=?_) rfl (by kernel_rfl) (by kernel_rfl) (by kernel_rfl) (fun _ _ _ h=>h) (Or.inl ⟨by rfl,?_⟩) hS0 ?_
     rotate_left
     ·intro W _;go_simp;try with_reducible rfl
     try simp only [Act.put,tD,tB,tA,tE,tF]
     refine wpAnyH_take (i:=1) (v:=.agg (⟨x.v,Ah,x.m1,ch,Aw,x.m3,cw⟩:Oz).arr) rfl (by kernel_rfl) (by kernel_rfl) (by kernel_rfl) (fun _ _ _ h=>h) (yields_bk (by rfl) 49 _ rfl p8 0 rfl 49 (⟨x.v,Ah,x.m1,ch,Aw,x.m3,cw⟩:Oz).arr (⟨x.v,Ah,x.m1,ch,Aw,x.m3,cw⟩:Oz).arr _ (fun W hW=>HP8.out.grp hW HNP8.out) (Part.whole _) Tryz.underlying49 rfl (by kernel_rfl)) hS0 ?_
     try simp only [Act.put,tD,tB,tC,tA,tE,tF]
     refine wpAnyH_take (i:=3) (v:=?_) rfl (by kernel_rfl) (by kernel_rfl) (by kernel_rfl) (fun _ _ _ h=>h) (Or.inl ⟨by rfl,?_⟩) hS0 ?_
     rotate_left
     ·intro W _;go_simp;try with_reducible rfl
     try simp only [Act.put,tD,tB,tC,tA,tE,tF]
     refine wpAnyH_take (i:=4) (v:=?_) rfl (by kernel_rfl) (by kernel_rfl) (by kernel_rfl) (fun _ _ _ h=>h) (Or.inl ⟨by rfl,?_⟩) hS0 ?_
     rotate_left
     ·intro W _;go_simp;try with_reducible rfl
     try simp only [Act.put,tD,tB,tC,tA,tE,tF]
     refine wpAnyH_take (i:=5) (v:=?_) rfl (by kernel_rfl) (by kernel_rfl) (by kernel_rfl) (fun _ _ _ h=>h) (Or.inl ⟨by rfl,?_⟩) hS0 ?_
     rotate_left
     ·intro W _;go_simp;try with_reducible rfl
     try simp only [Act.put,tD,tB,tC,tA,tE,tF]
     refine wpAnyH_take (i:=6) (v:=?_) rfl (by kernel_rfl) (by kernel_rfl) (by kernel_rfl) (fun _ _ _ h=>h) (Or.inl ⟨by rfl,?_⟩) hS0 ?_
     rotate_left
     ·intro W _;go_simp;try with_reducible rfl
     try simp only [Act.put,tD,tB,tC,tA,tE,tF]
     refine wpAnyH_take (i:=7) (v:=.agg x.arr) rfl (by kernel_rfl) (by kernel_rfl) (by kernel_rfl) (fun _ _ _ h=>h) (yields_rg (by rfl) 49 _ rfl q (o+i * 21) rfl x.arr _ (fun W hW=>HXR.out W hW) Tryz.underlying49 rfl (by kernel_rfl)) hS0 ?_
     try simp only [Act.put,tD,tB,tC,tA,tE,tF]
     have HT:=Lib.hid (HT9.out.below (Below.drew (Below.refl _ _)))
     clear HT9
     refine wpAnyH_ready (rs:=[2,9,10]) (by kernel_rfl) (by simp) ?_
     refine (AllReadyH.cons rfl (fun K hK=>?_) (AllReadyH.cons rfl (fun K hK=>?_) (AllReadyH.cons rfl (fun K hK=>?_) AllReadyH.nil)))
     ·go_simp
      have hsz:=hS0.size
      refine (tg_left HT.out hm0 HMM.out (⟨x.v,Ah,x.m1,ch,Aw,x.m3,cw⟩:Oz) (HZXO.out _ hS0) HL1.out HL3.out).mono ?_
      rintro e y1 ⟨⟨A1,n1,c1,rfl,hR⟩,hT,hG⟩
      have HR1:Hid (RetL w9.heap.size y1 A1 n1 c1 (stF S x.v).2.2):=RetL.base hR hsz
      have HF1:Hid (∀ k,nextF F w9.drew y1 k->F k ∨ w9.heap.size<=k):=fun k hk=>hk.1.imp id (fun h=>Nat.le_trans hsz h)
      clear HT
      obtain ⟨F1,hF1⟩:∃ G,G=nextF F w9.drew y1:=⟨_,rfl⟩
      rw [<- hF1] at hT HF1
      have HT:=Lib.hid hT
      go_simp
      refine hK.out _ _ (hS0.late hG (fun k hk=>.inl (.inl hk))) (fun hS1=>?_)
      clear hK K hR hT hG hsz hF1
      try simp only [Act.put,tD,tB,tC,tA,tE,tF]
      refine wpAnyH_ready (rs:=[8,9,10]) (by kernel_rfl) (by simp) ?_
      refine (AllReadyH.cons rfl (fun K hK=>?_) (AllReadyH.cons rfl (fun K hK=>?_) (AllReadyH.cons rfl (fun K hK=>?_) AllReadyH.nil)))
      ·go_simp
       have hsz:=hS1.size
       refine (tg_right HT.out hm0 HMM.out x (HZX.out _ hS1) HL1.out HL3.out).mono ?_
       rintro e y2 ⟨⟨A2,n2,c2,rfl,hR⟩,hT,hG⟩
       replace HR1:=Lib.hid (HR1.out.grp hG HKL.out)
       have HR2:Hid (RetL w9.heap.size y2 A2 n2 c2 (stF S x.v).2.2):=RetL.base hR hsz
       have HK1:Hid (∀ k,nextF Ky y1 y2 k->Ky k ∨ w9.heap.size<=k):=fun k hk=>hk.1.imp id (fun h=>Nat.le_trans hsz h)
       clear HT
       obtain ⟨K1,hK1⟩:∃ G,G=nextF Ky y1 y2:=⟨_,rfl⟩
       rw [<- hK1] at hT HK1
       have HT:=Lib.hid hT
       go_simp
       refine hK.out _ _ (hS1.late hG (fun k hk=>.inl (.inr hk))) (fun hS2=>?_)
       clear hK K hR hT hG hsz hK1
       try simp only [Act.put,tD,tB,tC,tA,tE,tF]
       refine wpAnyH_ready (rs:=[9,10]) (by kernel_rfl) (by simp) ?_
       refine (AllReadyH.cons rfl (fun K hK=>?_) (AllReadyH.cons rfl (fun K hK=>?_) AllReadyH.nil))
       ·simp only [if_pos,Region.wanted]
        refine acell_op rfl ?_
        intro p9 y3 hp hZ hbl
        have HO9:Hid (Off F1 K1 w9 p9):=⟨fun e=>by have:=(HT.out.b1 _ e).2;omega,fun e=>by have:=(HT.out.b2 _ e).2;omega,by have:=hS2.size;omega⟩
        have HZ9:=Lib.hid hZ
        replace HT:=Lib.hid (HT.out.below hbl)
        replace HR1:=Lib.hid (HR1.out.later hbl)
        replace HR2:=Lib.hid (HR2.out.later hbl)
        refine hK.out _ _ (hS2.trans (GrP.ofBelow hbl)) (fun hS3=>?_)
        clear hK K hp hZ hbl
        try simp only [Act.put,tD,tB,tC,tA,tE,tF]
        refine wpAnyH_ready (rs:=[10]) (by kernel_rfl) (by simp) ?_
        refine (AllReadyH.cons rfl (fun K hK=>?_) AllReadyH.nil)
        ·simp only [if_pos,Region.wanted]
         refine acell_op rfl ?_
         intro p10 y4 hp hZ hbl
         have HO10:Hid (Off F1 K1 w9 p10):=⟨fun e=>by have:=(HT.out.b1 _ e).2;omega,fun e=>by have:=(HT.out.b2 _ e).2;omega,by have:=hS3.size;omega⟩
         have HZ10:=Lib.hid hZ
         replace HT:=Lib.hid (HT.out.below hbl)
         have HNE:Hid (p9 ≠ p10):=(by have:=HZ9.out.here;show _ ≠ _;omega);replace HZ9:=Lib.hid (HZ9.out.later hbl)
         replace HR1:=Lib.hid (HR1.out.later hbl)
         replace HR2:=Lib.hid (HR2.out.later hbl)
         refine hK.out _ _ (hS3.trans (GrP.ofBelow hbl)) (fun hS4=>?_)
         clear hK K hp hZ hbl
         try simp only [Act.put,tD,tB,tC,tA,tE,tF]
         refine wpAnyH_ready (rs:=[11]) (by kernel_rfl) (by simp) ?_
         refine (AllReadyH.cons rfl (fun K hK=>?_) AllReadyH.nil)
         ·simp only [if_pos,Region.wanted]
          refine store_bk_op 36 (.tmp 9) (.tmp 66) rfl p9 0 #[.int .i64 (stF S x.v).2.1,.slice A1 n1 c1] rfl rfl 36 #[.int .i64 0,.slice none 0 0] #[.int .i64 (stF S x.v).2.1,.slice A1 n1 c1] HZ9.out (by kernel_rfl) (by simp) (by kernel_rfl) rfl ?_
          intro y5 hX hgr hs9
          have HZ10':=Lib.hid (HZ10.out.stays hgr (by have:=HNE.out;simp;omega));clear HZ10;have HZ10:=HZ10';clear HZ10'
          have HT':=Lib.hid (HT.out.grp (GrP.of hgr) (fun k hk=>by injection hk with hk;subst hk;exact ⟨HO9.out.1,HO9.out.2.1,Nat.le_trans HB9.out.size HO9.out.2.2⟩));clear HT;have HT:=HT';clear HT'
          replace HR1:=Lib.hid (HR1.out.aside HZ9.out noText0 hgr)
          replace HR2:=Lib.hid (HR2.out.aside HZ9.out noText0 hgr)
          clear HZ9;have HZ9:=Lib.hid hX
          refine hK.out _ _ (hS4.more hgr (fun k hk=>by injection hk with hk;subst hk;exact .inr HO9.out.2.2)) (fun hS5=>?_)
          clear hK K hX hgr hs9
          try simp only [Act.put,tD,tB,tC,tA,tE,tF]
          refine wpAnyH_ready (rs:=[12]) (by kernel_rfl) (by simp) ?_
          refine (AllReadyH.cons rfl (fun K hK=>?_) AllReadyH.nil)
          ·simp only [if_pos,Region.wanted]
           refine store_bk_op 36 (.tmp 10) (.tmp 72) rfl p10 0 #[.int .i64 (stF S x.v).2.1,.slice A2 n2 c2] rfl rfl 36 #[.int .i64 0,.slice none 0 0] #[.int .i64 (stF S x.v).2.1,.slice A2 n2 c2] HZ10.out (by kernel_rfl) (by simp) (by kernel_rfl) rfl ?_
           intro y6 hX hgr hs9
           have HZ9':=Lib.hid (HZ9.out.stays hgr (by have:=HNE.out;simp;omega));clear HZ9;have HZ9:=HZ9';clear HZ9'
           have HT':=Lib.hid (HT.out.grp (GrP.of hgr) (fun k hk=>by injection hk with hk;subst hk;exact ⟨HO10.out.1,HO10.out.2.1,Nat.le_trans HB9.out.size HO10.out.2.2⟩));clear HT;have HT:=HT';clear HT'
           replace HR1:=Lib.hid (HR1.out.aside HZ10.out noText0 hgr)
           replace HR2:=Lib.hid (HR2.out.aside HZ10.out noText0 hgr)
           clear HZ10;have HZ10:=Lib.hid hX
           refine hK.out _ _ (hS5.more hgr (fun k hk=>by injection hk with hk;subst hk;exact .inr HO10.out.2.2)) (fun hS6=>?_)
           clear hK K hX hgr hs9
           try simp only [Act.put,tD,tB,tC,tA,tE,tF]
           refine wpAnyH_done (by kernel_rfl) ?_ _
           go_wp2_with fail
           go_meet
           exact ⟨p9,p10,A1,n1,c1,A2,n2,c2,F1,K1,rfl,rfl,hS6,HT.out,HZ9.out,HZ10.out,HR1.out,HR2.out,HF1.out,HK1.out⟩
       ·simp only [if_pos,Region.wanted]
        refine acell_op rfl ?_
        intro p10 y3 hp hZ hbl
        have HO10:Hid (Off F1 K1 w9 p10):=⟨fun e=>by have:=(HT.out.b1 _ e).2;omega,fun e=>by have:=(HT.out.b2 _ e).2;omega,by have:=hS2.size;omega⟩
        have HZ10:=Lib.hid hZ
        replace HT:=Lib.hid (HT.out.below hbl)
        replace HR1:=Lib.hid (HR1.out.later hbl)
        replace HR2:=Lib.hid (HR2.out.later hbl)
        refine hK.out _ _ (hS2.trans (GrP.ofBelow hbl)) (fun hS3=>?_)
        clear hK K hp hZ hbl
        try simp only [Act.put,tD,tB,tC,tA,tE,tF]
        refine wpAnyH_ready (rs:=[9]) (by kernel_rfl) (by simp) ?_
        refine (AllReadyH.cons rfl (fun K hK=>?_) AllReadyH.nil)
        ·simp only [if_pos,Region.wanted]
         refine acell_op rfl ?_
         intro p9 y4 hp hZ hbl
         have HO9:Hid (Off F1 K1 w9 p9):=⟨fun e=>by have:=(HT.out.b1 _ e).2;omega,fun e=>by have:=(HT.out.b2 _ e).2;omega,by have:=hS3.size;omega⟩
         have HZ9:=Lib.hid hZ
         replace HT:=Lib.hid (HT.out.below hbl)
         have HNE:Hid (p10 ≠ p9):=(by have:=HZ10.out.here;show _ ≠ _;omega);replace HZ10:=Lib.hid (HZ10.out.later hbl)
         replace HR1:=Lib.hid (HR1.out.later hbl)
         replace HR2:=Lib.hid (HR2.out.later hbl)
         refine hK.out _ _ (hS3.trans (GrP.ofBelow hbl)) (fun hS4=>?_)
         clear hK K hp hZ hbl
         try simp only [Act.put,tD,tB,tC,tA,tE,tF]
         refine wpAnyH_ready (rs:=[11]) (by kernel_rfl) (by simp) ?_
         refine (AllReadyH.cons rfl (fun K hK=>?_) AllReadyH.nil)
         ·simp only [if_pos,Region.wanted]
          refine store_bk_op 36 (.tmp 9) (.tmp 66) rfl p9 0 #[.int .i64 (stF S x.v).2.1,.slice A1 n1 c1] rfl rfl 36 #[.int .i64 0,.slice none 0 0] #[.int .i64 (stF S x.v).2.1,.slice A1 n1 c1] HZ9.out (by kernel_rfl) (by simp) (by kernel_rfl) rfl ?_
          intro y5 hX hgr hs9
          have HZ10':=Lib.hid (HZ10.out.stays hgr (by have:=HNE.out;simp;omega));clear HZ10;have HZ10:=HZ10';clear HZ10'
          have HT':=Lib.hid (HT.out.grp (GrP.of hgr) (fun k hk=>by injection hk with hk;subst hk;exact ⟨HO9.out.1,HO9.out.2.1,Nat.le_trans HB9.out.size HO9.out.2.2⟩));clear HT;have HT:=HT';clear HT'
          replace HR1:=Lib.hid (HR1.out.aside HZ9.out noText0 hgr)
          replace HR2:=Lib.hid (HR2.out.aside HZ9.out noText0 hgr)
          clear HZ9;have HZ9:=Lib.hid hX
          refine hK.out _ _ (hS4.more hgr (fun k hk=>by injection hk with hk;subst hk;exact .inr HO9.out.2.2)) (fun hS5=>?_)
          clear hK K hX hgr hs9
          try simp only [Act.put,tD,tB,tC,tA,tE,tF]
          refine wpAnyH_ready (rs:=[12]) (by kernel_rfl) (by simp) ?_
          refine (AllReadyH.cons rfl (fun K hK=>?_) AllReadyH.nil)
          ·simp only [if_pos,Region.wanted]
           refine store_bk_op 36 (.tmp 10) (.tmp 72) rfl p10 0 #[.int .i64 (stF S x.v).2.1,.slice A2 n2 c2] rfl rfl 36 #[.int .i64 0,.slice none 0 0] #[.int .i64 (stF S x.v).2.1,.slice A2 n2 c2] HZ10.out (by kernel_rfl) (by simp) (by kernel_rfl) rfl ?_
           intro y6 hX hgr hs9
           have HZ9':=Lib.hid (HZ9.out.stays hgr (by have:=HNE.out;simp;omega));clear HZ9;have HZ9:=HZ9';clear HZ9'
           have HT':=Lib.hid (HT.out.grp (GrP.of hgr) (fun k hk=>by injection hk with hk;subst hk;exact ⟨HO10.out.1,HO10.out.2.1,Nat.le_trans HB9.out.size HO10.out.2.2⟩));clear HT;have HT:=HT';clear HT'
           replace HR1:=Lib.hid (HR1.out.aside HZ10.out noText0 hgr)
           replace HR2:=Lib.hid (HR2.out.aside HZ10.out noText0 hgr)
           clear HZ10;have HZ10:=Lib.hid hX
           refine hK.out _ _ (hS5.more hgr (fun k hk=>by injection hk with hk;subst hk;exact .inr HO10.out.2.2)) (fun hS6=>?_)
           clear hK K hX hgr hs9
           try simp only [Act.put,tD,tB,tC,tA,tE,tF]
           refine wpAnyH_done (by kernel_rfl) ?_ _
           go_wp2_with fail
           go_meet
           exact ⟨p9,p10,A1,n1,c1,A2,n2,c2,F1,K1,rfl,rfl,hS6,HT.out,HZ9.out,HZ10.out,HR1.out,HR2.out,HF1.out,HK1.out⟩
      ·simp only [if_pos,Region.wanted]
       refine acell_op rfl ?_
       intro p9 y2 hp hZ hbl
       have HO9:Hid (Off F1 Ky w9 p9):=⟨fun e=>by have:=(HT.out.b1 _ e).2;omega,fun e=>by have:=(HT.out.b2 _ e).2;omega,by have:=hS1.size;omega⟩
       have HZ9:=Lib.hid hZ
       replace HT:=Lib.hid (HT.out.below hbl)
       replace HR1:=Lib.hid (HR1.out.later hbl)
       refine hK.out _ _ (hS1.trans (GrP.ofBelow hbl)) (fun hS2=>?_)
       clear hK K hp hZ hbl
       try simp only [Act.put,tD,tB,tC,tA,tE,tF]
       refine wpAnyH_ready (rs:=[8,10]) (by kernel_rfl) (by simp) ?_
       refine (AllReadyH.cons rfl (fun K hK=>?_) (AllReadyH.cons rfl (fun K hK=>?_) AllReadyH.nil))
       ·go_simp
        have hsz:=hS2.size
        refine (tg_right HT.out hm0 HMM.out x (HZX.out _ hS2) HL1.out HL3.out).mono ?_
        rintro e y3 ⟨⟨A2,n2,c2,rfl,hR⟩,hT,hG⟩
        have HZ9':=Lib.hid (HZ9.out.grp hG HO9.out.2.1);have HO9':Hid (Off (F1) (nextF Ky y2 y3) w9 p9):=⟨HO9.out.1,nextF.off HO9.out.2.1 HZ9.out.here,HO9.out.2.2⟩;clear HZ9 HO9;have HZ9:=HZ9';have HO9:=HO9';clear HZ9' HO9'
        replace HR1:=Lib.hid (HR1.out.grp hG HKL.out)
        have HR2:Hid (RetL w9.heap.size y3 A2 n2 c2 (stF S x.v).2.2):=RetL.base hR hsz
        have HK1:Hid (∀ k,nextF Ky y2 y3 k->Ky k ∨ w9.heap.size<=k):=fun k hk=>hk.1.imp id (fun h=>Nat.le_trans hsz h)
        clear HT
        obtain ⟨K1,hK1⟩:∃ G,G=nextF Ky y2 y3:=⟨_,rfl⟩
        rw [<- hK1] at hT HK1 HO9
        have HT:=Lib.hid hT
        go_simp
        refine hK.out _ _ (hS2.late hG (fun k hk=>.inl (.inr hk))) (fun hS3=>?_)
        clear hK K hR hT hG hsz hK1
        try simp only [Act.put,tD,tB,tC,tA,tE,tF]
        refine wpAnyH_ready (rs:=[10]) (by kernel_rfl) (by simp) ?_
        refine (AllReadyH.cons rfl (fun K hK=>?_) AllReadyH.nil)
        ·simp only [if_pos,Region.wanted]
         refine acell_op rfl ?_
         intro p10 y4 hp hZ hbl
         have HO10:Hid (Off F1 K1 w9 p10):=⟨fun e=>by have:=(HT.out.b1 _ e).2;omega,fun e=>by have:=(HT.out.b2 _ e).2;omega,by have:=hS3.size;omega⟩
         have HZ10:=Lib.hid hZ
         replace HT:=Lib.hid (HT.out.below hbl)
         have HNE:Hid (p9 ≠ p10):=(by have:=HZ9.out.here;show _ ≠ _;omega);replace HZ9:=Lib.hid (HZ9.out.later hbl)
         replace HR1:=Lib.hid (HR1.out.later hbl)
         replace HR2:=Lib.hid (HR2.out.later hbl)
         refine hK.out _ _ (hS3.trans (GrP.ofBelow hbl)) (fun hS4=>?_)
         clear hK K hp hZ hbl
         try simp only [Act.put,tD,tB,tC,tA,tE,tF]
         refine wpAnyH_ready (rs:=[11]) (by kernel_rfl) (by simp) ?_
         refine (AllReadyH.cons rfl (fun K hK=>?_) AllReadyH.nil)
         ·simp only [if_pos,Region.wanted]
          refine store_bk_op 36 (.tmp 9) (.tmp 66) rfl p9 0 #[.int .i64 (stF S x.v).2.1,.slice A1 n1 c1] rfl rfl 36 #[.int .i64 0,.slice none 0 0] #[.int .i64 (stF S x.v).2.1,.slice A1 n1 c1] HZ9.out (by kernel_rfl) (by simp) (by kernel_rfl) rfl ?_
          intro y5 hX hgr hs9
          have HZ10':=Lib.hid (HZ10.out.stays hgr (by have:=HNE.out;simp;omega));clear HZ10;have HZ10:=HZ10';clear HZ10'
          have HT':=Lib.hid (HT.out.grp (GrP.of hgr) (fun k hk=>by injection hk with hk;subst hk;exact ⟨HO9.out.1,HO9.out.2.1,Nat.le_trans HB9.out.size HO9.out.2.2⟩));clear HT;have HT:=HT';clear HT'
          replace HR1:=Lib.hid (HR1.out.aside HZ9.out noText0 hgr)
          replace HR2:=Lib.hid (HR2.out.aside HZ9.out noText0 hgr)
          clear HZ9;have HZ9:=Lib.hid hX
          refine hK.out _ _ (hS4.more hgr (fun k hk=>by injection hk with hk;subst hk;exact .inr HO9.out.2.2)) (fun hS5=>?_)
          clear hK K hX hgr hs9
          try simp only [Act.put,tD,tB,tC,tA,tE,tF]
          refine wpAnyH_ready (rs:=[12]) (by kernel_rfl) (by simp) ?_
          refine (AllReadyH.cons rfl (fun K hK=>?_) AllReadyH.nil)
          ·simp only [if_pos,Region.wanted]
           refine store_bk_op 36 (.tmp 10) (.tmp 72) rfl p10 0 #[.int .i64 (stF S x.v).2.1,.slice A2 n2 c2] rfl rfl 36 #[.int .i64 0,.slice none 0 0] #[.int .i64 (stF S x.v).2.1,.slice A2 n2 c2] HZ10.out (by kernel_rfl) (by simp) (by kernel_rfl) rfl ?_
           intro y6 hX hgr hs9
           have HZ9':=Lib.hid (HZ9.out.stays hgr (by have:=HNE.out;simp;omega));clear HZ9;have HZ9:=HZ9';clear HZ9'
           have HT':=Lib.hid (HT.out.grp (GrP.of hgr) (fun k hk=>by injection hk with hk;subst hk;exact ⟨HO10.out.1,HO10.out.2.1,Nat.le_trans HB9.out.size HO10.out.2.2⟩));clear HT;have HT:=HT';clear HT'
           replace HR1:=Lib.hid (HR1.out.aside HZ10.out noText0 hgr)
           replace HR2:=Lib.hid (HR2.out.aside HZ10.out noText0 hgr)
           clear HZ10;have HZ10:=Lib.hid hX
           refine hK.out _ _ (hS5.more hgr (fun k hk=>by injection hk with hk;subst hk;exact .inr HO10.out.2.2)) (fun hS6=>?_)
           clear hK K hX hgr hs9
           try simp only [Act.put,tD,tB,tC,tA,tE,tF]
           refine wpAnyH_done (by kernel_rfl) ?_ _
           go_wp2_with fail
           go_meet
           exact ⟨p9,p10,A1,n1,c1,A2,n2,c2,F1,K1,rfl,rfl,hS6,HT.out,HZ9.out,HZ10.out,HR1.out,HR2.out,HF1.out,HK1.out⟩
       ·simp only [if_pos,Region.wanted]
        refine acell_op rfl ?_
        intro p10 y3 hp hZ hbl
        have HO10:Hid (Off F1 Ky w9 p10):=⟨fun e=>by have:=(HT.out.b1 _ e).2;omega,fun e=>by have:=(HT.out.b2 _ e).2;omega,by have:=hS2.size;omega⟩
        have HZ10:=Lib.hid hZ
        replace HT:=Lib.hid (HT.out.below hbl)
        have HNE:Hid (p9 ≠ p10):=(by have:=HZ9.out.here;show _ ≠ _;omega);replace HZ9:=Lib.hid (HZ9.out.later hbl)
        replace HR1:=Lib.hid (HR1.out.later hbl)
        refine hK.out _ _ (hS2.trans (GrP.ofBelow hbl)) (fun hS3=>?_)
        clear hK K hp hZ hbl
        try simp only [Act.put,tD,tB,tC,tA,tE,tF]
        refine wpAnyH_ready (rs:=[8]) (by kernel_rfl) (by simp) ?_
        refine (AllReadyH.cons rfl (fun K hK=>?_) AllReadyH.nil)
        ·go_simp
         have hsz:=hS3.size
         refine (tg_right HT.out hm0 HMM.out x (HZX.out _ hS3) HL1.out HL3.out).mono ?_
         rintro e y4 ⟨⟨A2,n2,c2,rfl,hR⟩,hT,hG⟩
         have HZ9':=Lib.hid (HZ9.out.grp hG HO9.out.2.1);have HO9':Hid (Off (F1) (nextF Ky y3 y4) w9 p9):=⟨HO9.out.1,nextF.off HO9.out.2.1 HZ9.out.here,HO9.out.2.2⟩;clear HZ9 HO9;have HZ9:=HZ9';have HO9:=HO9';clear HZ9' HO9'
         have HZ10':=Lib.hid (HZ10.out.grp hG HO10.out.2.1);have HO10':Hid (Off (F1) (nextF Ky y3 y4) w9 p10):=⟨HO10.out.1,nextF.off HO10.out.2.1 HZ10.out.here,HO10.out.2.2⟩;clear HZ10 HO10;have HZ10:=HZ10';have HO10:=HO10';clear HZ10' HO10'
         replace HR1:=Lib.hid (HR1.out.grp hG HKL.out)
         have HR2:Hid (RetL w9.heap.size y4 A2 n2 c2 (stF S x.v).2.2):=RetL.base hR hsz
         have HK1:Hid (∀ k,nextF Ky y3 y4 k->Ky k ∨ w9.heap.size<=k):=fun k hk=>hk.1.imp id (fun h=>Nat.le_trans hsz h)
         clear HT
         obtain ⟨K1,hK1⟩:∃ G,G=nextF Ky y3 y4:=⟨_,rfl⟩
         rw [<- hK1] at hT HK1 HO9 HO10
         have HT:=Lib.hid hT
         go_simp
         refine hK.out _ _ (hS3.late hG (fun k hk=>.inl (.inr hk))) (fun hS4=>?_)
         clear hK K hR hT hG hsz hK1
         try simp only [Act.put,tD,tB,tC,tA,tE,tF]
         refine wpAnyH_ready (rs:=[11]) (by kernel_rfl) (by simp) ?_
         refine (AllReadyH.cons rfl (fun K hK=>?_) AllReadyH.nil)
         ·simp only [if_pos,Region.wanted]
          refine store_bk_op 36 (.tmp 9) (.tmp 66) rfl p9 0 #[.int .i64 (stF S x.v).2.1,.slice A1 n1 c1] rfl rfl 36 #[.int .i64 0,.slice none 0 0] #[.int .i64 (stF S x.v).2.1,.slice A1 n1 c1] HZ9.out (by kernel_rfl) (by simp) (by kernel_rfl) rfl ?_
          intro y5 hX hgr hs9
          have HZ10':=Lib.hid (HZ10.out.stays hgr (by have:=HNE.out;simp;omega));clear HZ10;have HZ10:=HZ10';clear HZ10'
          have HT':=Lib.hid (HT.out.grp (GrP.of hgr) (fun k hk=>by injection hk with hk;subst hk;exact ⟨HO9.out.1,HO9.out.2.1,Nat.le_trans HB9.out.size HO9.out.2.2⟩));clear HT;have HT:=HT';clear HT'
          replace HR1:=Lib.hid (HR1.out.aside HZ9.out noText0 hgr)
          replace HR2:=Lib.hid (HR2.out.aside HZ9.out noText0 hgr)
          clear HZ9;have HZ9:=Lib.hid hX
          refine hK.out _ _ (hS4.more hgr (fun k hk=>by injection hk with hk;subst hk;exact .inr HO9.out.2.2)) (fun hS5=>?_)
          clear hK K hX hgr hs9
          try simp only [Act.put,tD,tB,tC,tA,tE,tF]
          refine wpAnyH_ready (rs:=[12]) (by kernel_rfl) (by simp) ?_
          refine (AllReadyH.cons rfl (fun K hK=>?_) AllReadyH.nil)
          ·simp only [if_pos,Region.wanted]
           refine store_bk_op 36 (.tmp 10) (.tmp 72) rfl p10 0 #[.int .i64 (stF S x.v).2.1,.slice A2 n2 c2] rfl rfl 36 #[.int .i64 0,.slice none 0 0] #[.int .i64 (stF S x.v).2.1,.slice A2 n2 c2] HZ10.out (by kernel_rfl) (by simp) (by kernel_rfl) rfl ?_
           intro y6 hX hgr hs9
           have HZ9':=Lib.hid (HZ9.out.stays hgr (by have:=HNE.out;simp;omega));clear HZ9;have HZ9:=HZ9';clear HZ9'
           have HT':=Lib.hid (HT.out.grp (GrP.of hgr) (fun k hk=>by injection hk with hk;subst hk;exact ⟨HO10.out.1,HO10.out.2.1,Nat.le_trans HB9.out.size HO10.out.2.2⟩));clear HT;have HT:=HT';clear HT'
           replace HR1:=Lib.hid (HR1.out.aside HZ10.out noText0 hgr)
           replace HR2:=Lib.hid (HR2.out.aside HZ10.out noText0 hgr)
           clear HZ10;have HZ10:=Lib.hid hX
           refine hK.out _ _ (hS5.more hgr (fun k hk=>by injection hk with hk;subst hk;exact .inr HO10.out.2.2)) (fun hS6=>?_)
           clear hK K hX hgr hs9
           try simp only [Act.put,tD,tB,tC,tA,tE,tF]
           refine wpAnyH_done (by kernel_rfl) ?_ _
           go_wp2_with fail
           go_meet
           exact ⟨p9,p10,A1,n1,c1,A2,n2,c2,F1,K1,rfl,rfl,hS6,HT.out,HZ9.out,HZ10.out,HR1.out,HR2.out,HF1.out,HK1.out⟩
      ·simp only [if_pos,Region.wanted]
       refine acell_op rfl ?_
       intro p10 y2 hp hZ hbl
       have HO10:Hid (Off F1 Ky w9 p10):=⟨fun e=>by have:=(HT.out.b1 _ e).2;omega,fun e=>by have:=(HT.out.b2 _ e).2;omega,by have:=hS1.size;omega⟩
       have HZ10:=Lib.hid hZ
       replace HT:=Lib.hid (HT.out.below hbl)
       replace HR1:=Lib.hid (HR1.out.later hbl)
       refine hK.out _ _ (hS1.trans (GrP.ofBelow hbl)) (fun hS2=>?_)
       clear hK K hp hZ hbl
       try simp only [Act.put,tD,tB,tC,tA,tE,tF]
       refine wpAnyH_ready (rs:=[8,9]) (by kernel_rfl) (by simp) ?_
       refine (AllReadyH.cons rfl (fun K hK=>?_) (AllReadyH.cons rfl (fun K hK=>?_) AllReadyH.nil))
       ·go_simp
        have hsz:=hS2.size
        refine (tg_right HT.out hm0 HMM.out x (HZX.out _ hS2) HL1.out HL3.out).mono ?_
        rintro e y3 ⟨⟨A2,n2,c2,rfl,hR⟩,hT,hG⟩
        have HZ10':=Lib.hid (HZ10.out.grp hG HO10.out.2.1);have HO10':Hid (Off (F1) (nextF Ky y2 y3) w9 p10):=⟨HO10.out.1,nextF.off HO10.out.2.1 HZ10.out.here,HO10.out.2.2⟩;clear HZ10 HO10;have HZ10:=HZ10';have HO10:=HO10';clear HZ10' HO10'
        replace HR1:=Lib.hid (HR1.out.grp hG HKL.out)
        have HR2:Hid (RetL w9.heap.size y3 A2 n2 c2 (stF S x.v).2.2):=RetL.base hR hsz
        have HK1:Hid (∀ k,nextF Ky y2 y3 k->Ky k ∨ w9.heap.size<=k):=fun k hk=>hk.1.imp id (fun h=>Nat.le_trans hsz h)
        clear HT
        obtain ⟨K1,hK1⟩:∃ G,G=nextF Ky y2 y3:=⟨_,rfl⟩
        rw [<- hK1] at hT HK1 HO10
        have HT:=Lib.hid hT
        go_simp
        refine hK.out _ _ (hS2.late hG (fun k hk=>.inl (.inr hk))) (fun hS3=>?_)
        clear hK K hR hT hG hsz hK1
        try simp only [Act.put,tD,tB,tC,tA,tE,tF]
        refine wpAnyH_ready (rs:=[9]) (by kernel_rfl) (by simp) ?_
        refine (AllReadyH.cons rfl (fun K hK=>?_) AllReadyH.nil)
        ·simp only [if_pos,Region.wanted]
         refine acell_op rfl ?_
         intro p9 y4 hp hZ hbl
         have HO9:Hid (Off F1 K1 w9 p9):=⟨fun e=>by have:=(HT.out.b1 _ e).2;omega,fun e=>by have:=(HT.out.b2 _ e).2;omega,by have:=hS3.size;omega⟩
         have HZ9:=Lib.hid hZ
         replace HT:=Lib.hid (HT.out.below hbl)
         have HNE:Hid (p10 ≠ p9):=(by have:=HZ10.out.here;show _ ≠ _;omega);replace HZ10:=Lib.hid (HZ10.out.later hbl)
         replace HR1:=Lib.hid (HR1.out.later hbl)
         replace HR2:=Lib.hid (HR2.out.later hbl)
         refine hK.out _ _ (hS3.trans (GrP.ofBelow hbl)) (fun hS4=>?_)
         clear hK K hp hZ hbl
         try simp only [Act.put,tD,tB,tC,tA,tE,tF]
         refine wpAnyH_ready (rs:=[11]) (by kernel_rfl) (by simp) ?_
         refine (AllReadyH.cons rfl (fun K hK=>?_) AllReadyH.nil)
         ·simp only [if_pos,Region.wanted]
          refine store_bk_op 36 (.tmp 9) (.tmp 66) rfl p9 0 #[.int .i64 (stF S x.v).2.1,.slice A1 n1 c1] rfl rfl 36 #[.int .i64 0,.slice none 0 0] #[.int .i64 (stF S x.v).2.1,.slice A1 n1 c1] HZ9.out (by kernel_rfl) (by simp) (by kernel_rfl) rfl ?_
          intro y5 hX hgr hs9
          have HZ10':=Lib.hid (HZ10.out.stays hgr (by have:=HNE.out;simp;omega));clear HZ10;have HZ10:=HZ10';clear HZ10'
          have HT':=Lib.hid (HT.out.grp (GrP.of hgr) (fun k hk=>by injection hk with hk;subst hk;exact ⟨HO9.out.1,HO9.out.2.1,Nat.le_trans HB9.out.size HO9.out.2.2⟩));clear HT;have HT:=HT';clear HT'
          replace HR1:=Lib.hid (HR1.out.aside HZ9.out noText0 hgr)
          replace HR2:=Lib.hid (HR2.out.aside HZ9.out noText0 hgr)
          clear HZ9;have HZ9:=Lib.hid hX
          refine hK.out _ _ (hS4.more hgr (fun k hk=>by injection hk with hk;subst hk;exact .inr HO9.out.2.2)) (fun hS5=>?_)
          clear hK K hX hgr hs9
          try simp only [Act.put,tD,tB,tC,tA,tE,tF]
          refine wpAnyH_ready (rs:=[12]) (by kernel_rfl) (by simp) ?_
          refine (AllReadyH.cons rfl (fun K hK=>?_) AllReadyH.nil)
          ·simp only [if_pos,Region.wanted]
           refine store_bk_op 36 (.tmp 10) (.tmp 72) rfl p10 0 #[.int .i64 (stF S x.v).2.1,.slice A2 n2 c2] rfl rfl 36 #[.int .i64 0,.slice none 0 0] #[.int .i64 (stF S x.v).2.1,.slice A2 n2 c2] HZ10.out (by kernel_rfl) (by simp) (by kernel_rfl) rfl ?_
           intro y6 hX hgr hs9
           have HZ9':=Lib.hid (HZ9.out.stays hgr (by have:=HNE.out;simp;omega));clear HZ9;have HZ9:=HZ9';clear HZ9'
           have HT':=Lib.hid (HT.out.grp (GrP.of hgr) (fun k hk=>by injection hk with hk;subst hk;exact ⟨HO10.out.1,HO10.out.2.1,Nat.le_trans HB9.out.size HO10.out.2.2⟩));clear HT;have HT:=HT';clear HT'
           replace HR1:=Lib.hid (HR1.out.aside HZ10.out noText0 hgr)
           replace HR2:=Lib.hid (HR2.out.aside HZ10.out noText0 hgr)
           clear HZ10;have HZ10:=Lib.hid hX
           refine hK.out _ _ (hS5.more hgr (fun k hk=>by injection hk with hk;subst hk;exact .inr HO10.out.2.2)) (fun hS6=>?_)
           clear hK K hX hgr hs9
           try simp only [Act.put,tD,tB,tC,tA,tE,tF]
           refine wpAnyH_done (by kernel_rfl) ?_ _
           go_wp2_with fail
           go_meet
           exact ⟨p9,p10,A1,n1,c1,A2,n2,c2,F1,K1,rfl,rfl,hS6,HT.out,HZ9.out,HZ10.out,HR1.out,HR2.out,HF1.out,HK1.out⟩
       ·simp only [if_pos,Region.wanted]
        refine acell_op rfl ?_
        intro p9 y3 hp hZ hbl
        have HO9:Hid (Off F1 Ky w9 p9):=⟨fun e=>by have:=(HT.out.b1 _ e).2;omega,fun e=>by have:=(HT.out.b2 _ e).2;omega,by have:=hS2.size;omega⟩
        have HZ9:=Lib.hid hZ
        replace HT:=Lib.hid (HT.out.below hbl)
        have HNE:Hid (p10 ≠ p9):=(by have:=HZ10.out.here;show _ ≠ _;omega);replace HZ10:=Lib.hid (HZ10.out.later hbl)
        replace HR1:=Lib.hid (HR1.out.later hbl)
        refine hK.out _ _ (hS2.trans (GrP.ofBelow hbl)) (fun hS3=>?_)
        clear hK K hp hZ hbl
        try simp only [Act.put,tD,tB,tC,tA,tE,tF]
        refine wpAnyH_ready (rs:=[8]) (by kernel_rfl) (by simp) ?_
        refine (AllReadyH.cons rfl (fun K hK=>?_) AllReadyH.nil)
        ·go_simp
         have hsz:=hS3.size
         refine (tg_right HT.out hm0 HMM.out x (HZX.out _ hS3) HL1.out HL3.out).mono ?_
         rintro e y4 ⟨⟨A2,n2,c2,rfl,hR⟩,hT,hG⟩
         have HZ9':=Lib.hid (HZ9.out.grp hG HO9.out.2.1);have HO9':Hid (Off (F1) (nextF Ky y3 y4) w9 p9):=⟨HO9.out.1,nextF.off HO9.out.2.1 HZ9.out.here,HO9.out.2.2⟩;clear HZ9 HO9;have HZ9:=HZ9';have HO9:=HO9';clear HZ9' HO9'
         have HZ10':=Lib.hid (HZ10.out.grp hG HO10.out.2.1);have HO10':Hid (Off (F1) (nextF Ky y3 y4) w9 p10):=⟨HO10.out.1,nextF.off HO10.out.2.1 HZ10.out.here,HO10.out.2.2⟩;clear HZ10 HO10;have HZ10:=HZ10';have HO10:=HO10';clear HZ10' HO10'
         replace HR1:=Lib.hid (HR1.out.grp hG HKL.out)
         have HR2:Hid (RetL w9.heap.size y4 A2 n2 c2 (stF S x.v).2.2):=RetL.base hR hsz
         have HK1:Hid (∀ k,nextF Ky y3 y4 k->Ky k ∨ w9.heap.size<=k):=fun k hk=>hk.1.imp id (fun h=>Nat.le_trans hsz h)
         clear HT
         obtain ⟨K1,hK1⟩:∃ G,G=nextF Ky y3 y4:=⟨_,rfl⟩
         rw [<- hK1] at hT HK1 HO9 HO10
         have HT:=Lib.hid hT
         go_simp
         refine hK.out _ _ (hS3.late hG (fun k hk=>.inl (.inr hk))) (fun hS4=>?_)
         clear hK K hR hT hG hsz hK1
         try simp only [Act.put,tD,tB,tC,tA,tE,tF]
         refine wpAnyH_ready (rs:=[11]) (by kernel_rfl) (by simp) ?_
         refine (AllReadyH.cons rfl (fun K hK=>?_) AllReadyH.nil)
         ·simp only [if_pos,Region.wanted]
          refine store_bk_op 36 (.tmp 9) (.tmp 66) rfl p9 0 #[.int .i64 (stF S x.v).2.1,.slice A1 n1 c1] rfl rfl 36 #[.int .i64 0,.slice none 0 0] #[.int .i64 (stF S x.v).2.1,.slice A1 n1 c1] HZ9.out (by kernel_rfl) (by simp) (by kernel_rfl) rfl ?_
          intro y5 hX hgr hs9
          have HZ10':=Lib.hid (HZ10.out.stays hgr (by have:=HNE.out;simp;omega));clear HZ10;have HZ10:=HZ10';clear HZ10'
          have HT':=Lib.hid (HT.out.grp (GrP.of hgr) (fun k hk=>by injection hk with hk;subst hk;exact ⟨HO9.out.1,HO9.out.2.1,Nat.le_trans HB9.out.size HO9.out.2.2⟩));clear HT;have HT:=HT';clear HT'
          replace HR1:=Lib.hid (HR1.out.aside HZ9.out noText0 hgr)
          replace HR2:=Lib.hid (HR2.out.aside HZ9.out noText0 hgr)
          clear HZ9;have HZ9:=Lib.hid hX
          refine hK.out _ _ (hS4.more hgr (fun k hk=>by injection hk with hk;subst hk;exact .inr HO9.out.2.2)) (fun hS5=>?_)
          clear hK K hX hgr hs9
          try simp only [Act.put,tD,tB,tC,tA,tE,tF]
          refine wpAnyH_ready (rs:=[12]) (by kernel_rfl) (by simp) ?_
          refine (AllReadyH.cons rfl (fun K hK=>?_) AllReadyH.nil)
          ·simp only [if_pos,Region.wanted]
           refine store_bk_op 36 (.tmp 10) (.tmp 72) rfl p10 0 #[.int .i64 (stF S x.v).2.1,.slice A2 n2 c2] rfl rfl 36 #[.int .i64 0,.slice none 0 0] #[.int .i64 (stF S x.v).2.1,.slice A2 n2 c2] HZ10.out (by kernel_rfl) (by simp) (by kernel_rfl) rfl ?_
           intro y6 hX hgr hs9
           have HZ9':=Lib.hid (HZ9.out.stays hgr (by have:=HNE.out;simp;omega));clear HZ9;have HZ9:=HZ9';clear HZ9'
           have HT':=Lib.hid (HT.out.grp (GrP.of hgr) (fun k hk=>by injection hk with hk;subst hk;exact ⟨HO10.out.1,HO10.out.2.1,Nat.le_trans HB9.out.size HO10.out.2.2⟩));clear HT;have HT:=HT';clear HT'
           replace HR1:=Lib.hid (HR1.out.aside HZ10.out noText0 hgr)
           replace HR2:=Lib.hid (HR2.out.aside HZ10.out noText0 hgr)
           clear HZ10;have HZ10:=Lib.hid hX
           refine hK.out _ _ (hS5.more hgr (fun k hk=>by injection hk with hk;subst hk;exact .inr HO10.out.2.2)) (fun hS6=>?_)
           clear hK K hX hgr hs9
           try simp only [Act.put,tD,tB,tC,tA,tE,tF]
           refine wpAnyH_done (by kernel_rfl) ?_ _
           go_wp2_with fail
           go_meet
           exact ⟨p9,p10,A1,n1,c1,A2,n2,c2,F1,K1,rfl,rfl,hS6,HT.out,HZ9.out,HZ10.out,HR1.out,HR2.out,HF1.out,HK1.out⟩
     ·simp only [if_pos,Region.wanted]
      refine acell_op rfl ?_
      intro p9 y1 hp hZ hbl
      have HO9:Hid (Off F Ky w9 p9):=⟨fun e=>by have:=(HT.out.b1 _ e).2;omega,fun e=>by have:=(HT.out.b2 _ e).2;omega,by have:=hS0.size;omega⟩
      have HZ9:=Lib.hid hZ
      replace HT:=Lib.hid (HT.out.below hbl)
      refine hK.out _ _ (hS0.trans (GrP.ofBelow hbl)) (fun hS1=>?_)
      clear hK K hp hZ hbl
      try simp only [Act.put,tD,tB,tC,tA,tE,tF]
      refine wpAnyH_ready (rs:=[2,10]) (by kernel_rfl) (by simp) ?_
      refine (AllReadyH.cons rfl (fun K hK=>?_) (AllReadyH.cons rfl (fun K hK=>?_) AllReadyH.nil))
      ·go_simp
       have hsz:=hS1.size
       refine (tg_left HT.out hm0 HMM.out (⟨x.v,Ah,x.m1,ch,Aw,x.m3,cw⟩:Oz) (HZXO.out _ hS1) HL1.out HL3.out).mono ?_
       rintro e y2 ⟨⟨A1,n1,c1,rfl,hR⟩,hT,hG⟩
       have HZ9':=Lib.hid (HZ9.out.grp hG HO9.out.1);have HO9':Hid (Off (nextF F y1 y2) (Ky) w9 p9):=⟨nextF.off HO9.out.1 HZ9.out.here,HO9.out.2.1,HO9.out.2.2⟩;clear HZ9 HO9;have HZ9:=HZ9';have HO9:=HO9';clear HZ9' HO9'
       have HR1:Hid (RetL w9.heap.size y2 A1 n1 c1 (stF S x.v).2.2):=RetL.base hR hsz
       have HF1:Hid (∀ k,nextF F y1 y2 k->F k ∨ w9.heap.size<=k):=fun k hk=>hk.1.imp id (fun h=>Nat.le_trans hsz h)
       clear HT
       obtain ⟨F1,hF1⟩:∃ G,G=nextF F y1 y2:=⟨_,rfl⟩
       rw [<- hF1] at hT HF1 HO9
       have HT:=Lib.hid hT
       go_simp
       refine hK.out _ _ (hS1.late hG (fun k hk=>.inl (.inl hk))) (fun hS2=>?_)
       clear hK K hR hT hG hsz hF1
       try simp only [Act.put,tD,tB,tC,tA,tE,tF]
       refine wpAnyH_ready (rs:=[8,10]) (by kernel_rfl) (by simp) ?_
       refine (AllReadyH.cons rfl (fun K hK=>?_) (AllReadyH.cons rfl (fun K hK=>?_) AllReadyH.nil))
       ·go_simp
        have hsz:=hS2.size
        refine (tg_right HT.out hm0 HMM.out x (HZX.out _ hS2) HL1.out HL3.out).mono ?_
        rintro e y3 ⟨⟨A2,n2,c2,rfl,hR⟩,hT,hG⟩
        have HZ9':=Lib.hid (HZ9.out.grp hG HO9.out.2.1);have HO9':Hid (Off (F1) (nextF Ky y2 y3) w9 p9):=⟨HO9.out.1,nextF.off HO9.out.2.1 HZ9.out.here,HO9.out.2.2⟩;clear HZ9 HO9;have HZ9:=HZ9';have HO9:=HO9';clear HZ9' HO9'
        replace HR1:=Lib.hid (HR1.out.grp hG HKL.out)
        have HR2:Hid (RetL w9.heap.size y3 A2 n2 c2 (stF S x.v).2.2):=RetL.base hR hsz
        have HK1:Hid (∀ k,nextF Ky y2 y3 k->Ky k ∨ w9.heap.size<=k):=fun k hk=>hk.1.imp id (fun h=>Nat.le_trans hsz h)
        clear HT
        obtain ⟨K1,hK1⟩:∃ G,G=nextF Ky y2 y3:=⟨_,rfl⟩
        rw [<- hK1] at hT HK1 HO9
        have HT:=Lib.hid hT
        go_simp
        refine hK.out _ _ (hS2.late hG (fun k hk=>.inl (.inr hk))) (fun hS3=>?_)
        clear hK K hR hT hG hsz hK1
        try simp only [Act.put,tD,tB,tC,tA,tE,tF]
        refine wpAnyH_ready (rs:=[10]) (by kernel_rfl) (by simp) ?_
        refine (AllReadyH.cons rfl (fun K hK=>?_) AllReadyH.nil)
        ·simp only [if_pos,Region.wanted]
         refine acell_op rfl ?_
         intro p10 y4 hp hZ hbl
         have HO10:Hid (Off F1 K1 w9 p10):=⟨fun e=>by have:=(HT.out.b1 _ e).2;omega,fun e=>by have:=(HT.out.b2 _ e).2;omega,by have:=hS3.size;omega⟩
         have HZ10:=Lib.hid hZ
         replace HT:=Lib.hid (HT.out.below hbl)
         have HNE:Hid (p9 ≠ p10):=(by have:=HZ9.out.here;show _ ≠ _;omega);replace HZ9:=Lib.hid (HZ9.out.later hbl)
         replace HR1:=Lib.hid (HR1.out.later hbl)
         replace HR2:=Lib.hid (HR2.out.later hbl)
         refine hK.out _ _ (hS3.trans (GrP.ofBelow hbl)) (fun hS4=>?_)
         clear hK K hp hZ hbl
         try simp only [Act.put,tD,tB,tC,tA,tE,tF]
         refine wpAnyH_ready (rs:=[11]) (by kernel_rfl) (by simp) ?_
         refine (AllReadyH.cons rfl (fun K hK=>?_) AllReadyH.nil)
         ·simp only [if_pos,Region.wanted]
          refine store_bk_op 36 (.tmp 9) (.tmp 66) rfl p9 0 #[.int .i64 (stF S x.v).2.1,.slice A1 n1 c1] rfl rfl 36 #[.int .i64 0,.slice none 0 0] #[.int .i64 (stF S x.v).2.1,.slice A1 n1 c1] HZ9.out (by kernel_rfl) (by simp) (by kernel_rfl) rfl ?_
          intro y5 hX hgr hs9
          have HZ10':=Lib.hid (HZ10.out.stays hgr (by have:=HNE.out;simp;omega));clear HZ10;have HZ10:=HZ10';clear HZ10'
          have HT':=Lib.hid (HT.out.grp (GrP.of hgr) (fun k hk=>by injection hk with hk;subst hk;exact ⟨HO9.out.1,HO9.out.2.1,Nat.le_trans HB9.out.size HO9.out.2.2⟩));clear HT;have HT:=HT';clear HT'
          replace HR1:=Lib.hid (HR1.out.aside HZ9.out noText0 hgr)
          replace HR2:=Lib.hid (HR2.out.aside HZ9.out noText0 hgr)
          clear HZ9;have HZ9:=Lib.hid hX
          refine hK.out _ _ (hS4.more hgr (fun k hk=>by injection hk with hk;subst hk;exact .inr HO9.out.2.2)) (fun hS5=>?_)
          clear hK K hX hgr hs9
          try simp only [Act.put,tD,tB,tC,tA,tE,tF]
          refine wpAnyH_ready (rs:=[12]) (by kernel_rfl) (by simp) ?_
          refine (AllReadyH.cons rfl (fun K hK=>?_) AllReadyH.nil)
          ·simp only [if_pos,Region.wanted]
           refine store_bk_op 36 (.tmp 10) (.tmp 72) rfl p10 0 #[.int .i64 (stF S x.v).2.1,.slice A2 n2 c2] rfl rfl 36 #[.int .i64 0,.slice none 0 0] #[.int .i64 (stF S x.v).2.1,.slice A2 n2 c2] HZ10.out (by kernel_rfl) (by simp) (by kernel_rfl) rfl ?_
           intro y6 hX hgr hs9
           have HZ9':=Lib.hid (HZ9.out.stays hgr (by have:=HNE.out;simp;omega));clear HZ9;have HZ9:=HZ9';clear HZ9'
           have HT':=Lib.hid (HT.out.grp (GrP.of hgr) (fun k hk=>by injection hk with hk;subst hk;exact ⟨HO10.out.1,HO10.out.2.1,Nat.le_trans HB9.out.size HO10.out.2.2⟩));clear HT;have HT:=HT';clear HT'
           replace HR1:=Lib.hid (HR1.out.aside HZ10.out noText0 hgr)
           replace HR2:=Lib.hid (HR2.out.aside HZ10.out noText0 hgr)
           clear HZ10;have HZ10:=Lib.hid hX
           refine hK.out _ _ (hS5.more hgr (fun k hk=>by injection hk with hk;subst hk;exact .inr HO10.out.2.2)) (fun hS6=>?_)
           clear hK K hX hgr hs9
           try simp only [Act.put,tD,tB,tC,tA,tE,tF]
           refine wpAnyH_done (by kernel_rfl) ?_ _
           go_wp2_with fail
           go_meet
           exact ⟨p9,p10,A1,n1,c1,A2,n2,c2,F1,K1,rfl,rfl,hS6,HT.out,HZ9.out,HZ10.out,HR1.out,HR2.out,HF1.out,HK1.out⟩
       ·simp only [if_pos,Region.wanted]
        refine acell_op rfl ?_
        intro p10 y3 hp hZ hbl
        have HO10:Hid (Off F1 Ky w9 p10):=⟨fun e=>by have:=(HT.out.b1 _ e).2;omega,fun e=>by have:=(HT.out.b2 _ e).2;omega,by have:=hS2.size;omega⟩
        have HZ10:=Lib.hid hZ
        replace HT:=Lib.hid (HT.out.below hbl)
        have HNE:Hid (p9 ≠ p10):=(by have:=HZ9.out.here;show _ ≠ _;omega);replace HZ9:=Lib.hid (HZ9.out.later hbl)
        replace HR1:=Lib.hid (HR1.out.later hbl)
        refine hK.out _ _ (hS2.trans (GrP.ofBelow hbl)) (fun hS3=>?_)
        clear hK K hp hZ hbl
        try simp only [Act.put,tD,tB,tC,tA,tE,tF]
        refine wpAnyH_ready (rs:=[8]) (by kernel_rfl) (by simp) ?_
        refine (AllReadyH.cons rfl (fun K hK=>?_) AllReadyH.nil)
        ·go_simp
         have hsz:=hS3.size
         refine (tg_right HT.out hm0 HMM.out x (HZX.out _ hS3) HL1.out HL3.out).mono ?_
         rintro e y4 ⟨⟨A2,n2,c2,rfl,hR⟩,hT,hG⟩
         have HZ9':=Lib.hid (HZ9.out.grp hG HO9.out.2.1);have HO9':Hid (Off (F1) (nextF Ky y3 y4) w9 p9):=⟨HO9.out.1,nextF.off HO9.out.2.1 HZ9.out.here,HO9.out.2.2⟩;clear HZ9 HO9;have HZ9:=HZ9';have HO9:=HO9';clear HZ9' HO9'
         have HZ10':=Lib.hid (HZ10.out.grp hG HO10.out.2.1);have HO10':Hid (Off (F1) (nextF Ky y3 y4) w9 p10):=⟨HO10.out.1,nextF.off HO10.out.2.1 HZ10.out.here,HO10.out.2.2⟩;clear HZ10 HO10;have HZ10:=HZ10';have HO10:=HO10';clear HZ10' HO10'
         replace HR1:=Lib.hid (HR1.out.grp hG HKL.out)
         have HR2:Hid (RetL w9.heap.size y4 A2 n2 c2 (stF S x.v).2.2):=RetL.base hR hsz
         have HK1:Hid (∀ k,nextF Ky y3 y4 k->Ky k ∨ w9.heap.size<=k):=fun k hk=>hk.1.imp id (fun h=>Nat.le_trans hsz h)
         clear HT
         obtain ⟨K1,hK1⟩:∃ G,G=nextF Ky y3 y4:=⟨_,rfl⟩
         rw [<- hK1] at hT HK1 HO9 HO10
         have HT:=Lib.hid hT
         go_simp
         refine hK.out _ _ (hS3.late hG (fun k hk=>.inl (.inr hk))) (fun hS4=>?_)
         clear hK K hR hT hG hsz hK1
         try simp only [Act.put,tD,tB,tC,tA,tE,tF]
         refine wpAnyH_ready (rs:=[11]) (by kernel_rfl) (by simp) ?_
         refine (AllReadyH.cons rfl (fun K hK=>?_) AllReadyH.nil)
         ·simp only [if_pos,Region.wanted]
          refine store_bk_op 36 (.tmp 9) (.tmp 66) rfl p9 0 #[.int .i64 (stF S x.v).2.1,.slice A1 n1 c1] rfl rfl 36 #[.int .i64 0,.slice none 0 0] #[.int .i64 (stF S x.v).2.1,.slice A1 n1 c1] HZ9.out (by kernel_rfl) (by simp) (by kernel_rfl) rfl ?_
          intro y5 hX hgr hs9
          have HZ10':=Lib.hid (HZ10.out.stays hgr (by have:=HNE.out;simp;omega));clear HZ10;have HZ10:=HZ10';clear HZ10'
          have HT':=Lib.hid (HT.out.grp (GrP.of hgr) (fun k hk=>by injection hk with hk;subst hk;exact ⟨HO9.out.1,HO9.out.2.1,Nat.le_trans HB9.out.size HO9.out.2.2⟩));clear HT;have HT:=HT';clear HT'
          replace HR1:=Lib.hid (HR1.out.aside HZ9.out noText0 hgr)
          replace HR2:=Lib.hid (HR2.out.aside HZ9.out noText0 hgr)
          clear HZ9;have HZ9:=Lib.hid hX
          refine hK.out _ _ (hS4.more hgr (fun k hk=>by injection hk with hk;subst hk;exact .inr HO9.out.2.2)) (fun hS5=>?_)
          clear hK K hX hgr hs9
          try simp only [Act.put,tD,tB,tC,tA,tE,tF]
          refine wpAnyH_ready (rs:=[12]) (by kernel_rfl) (by simp) ?_
          refine (AllReadyH.cons rfl (fun K hK=>?_) AllReadyH.nil)
          ·simp only [if_pos,Region.wanted]
           refine store_bk_op 36 (.tmp 10) (.tmp 72) rfl p10 0 #[.int .i64 (stF S x.v).2.1,.slice A2 n2 c2] rfl rfl 36 #[.int .i64 0,.slice none 0 0] #[.int .i64 (stF S x.v).2.1,.slice A2 n2 c2] HZ10.out (by kernel_rfl) (by simp) (by kernel_rfl) rfl ?_
           intro y6 hX hgr hs9
           have HZ9':=Lib.hid (HZ9.out.stays hgr (by have:=HNE.out;simp;omega));clear HZ9;have HZ9:=HZ9';clear HZ9'
           have HT':=Lib.hid (HT.out.grp (GrP.of hgr) (fun k hk=>by injection hk with hk;subst hk;exact ⟨HO10.out.1,HO10.out.2.1,Nat.le_trans HB9.out.size HO10.out.2.2⟩));clear HT;have HT:=HT';clear HT'
           replace HR1:=Lib.hid (HR1.out.aside HZ10.out noText0 hgr)
           replace HR2:=Lib.hid (HR2.out.aside HZ10.out noText0 hgr)
           clear HZ10;have HZ10:=Lib.hid hX
           refine hK.out _ _ (hS5.more hgr (fun k hk=>by injection hk with hk;subst hk;exact .inr HO10.out.2.2)) (fun hS6=>?_)
           clear hK K hX hgr hs9
           try simp only [Act.put,tD,tB,tC,tA,tE,tF]
           refine wpAnyH_done (by kernel_rfl) ?_ _
           go_wp2_with fail
           go_meet
           exact ⟨p9,p10,A1,n1,c1,A2,n2,c2,F1,K1,rfl,rfl,hS6,HT.out,HZ9.out,HZ10.out,HR1.out,HR2.out,HF1.out,HK1.out⟩
      ·simp only [if_pos,Region.wanted]
       refine acell_op rfl ?_
       intro p10 y2 hp hZ hbl
       have HO10:Hid (Off F Ky w9 p10):=⟨fun e=>by have:=(HT.out.b1 _ e).2;omega,fun e=>by have:=(HT.out.b2 _ e).2;omega,by have:=hS1.size;omega⟩
       have HZ10:=Lib.hid hZ
       replace HT:=Lib.hid (HT.out.below hbl)
       have HNE:Hid (p9 ≠ p10):=(by have:=HZ9.out.here;show _ ≠ _;omega);replace HZ9:=Lib.hid (HZ9.out.later hbl)
       refine hK.out _ _ (hS1.trans (GrP.ofBelow hbl)) (fun hS2=>?_)
       clear hK K hp hZ hbl
       try simp only [Act.put,tD,tB,tC,tA,tE,tF]
       refine wpAnyH_ready (rs:=[2]) (by kernel_rfl) (by simp) ?_
       refine (AllReadyH.cons rfl (fun K hK=>?_) AllReadyH.nil)
       ·go_simp
        have hsz:=hS2.size
        refine (tg_left HT.out hm0 HMM.out (⟨x.v,Ah,x.m1,ch,Aw,x.m3,cw⟩:Oz) (HZXO.out _ hS2) HL1.out HL3.out).mono ?_
        rintro e y3 ⟨⟨A1,n1,c1,rfl,hR⟩,hT,hG⟩
        have HZ9':=Lib.hid (HZ9.out.grp hG HO9.out.1);have HO9':Hid (Off (nextF F y2 y3) (Ky) w9 p9):=⟨nextF.off HO9.out.1 HZ9.out.here,HO9.out.2.1,HO9.out.2.2⟩;clear HZ9 HO9;have HZ9:=HZ9';have HO9:=HO9';clear HZ9' HO9'
        have HZ10':=Lib.hid (HZ10.out.grp hG HO10.out.1);have HO10':Hid (Off (nextF F y2 y3) (Ky) w9 p10):=⟨nextF.off HO10.out.1 HZ10.out.here,HO10.out.2.1,HO10.out.2.2⟩;clear HZ10 HO10;have HZ10:=HZ10';have HO10:=HO10';clear HZ10' HO10'
        have HR1:Hid (RetL w9.heap.size y3 A1 n1 c1 (stF S x.v).2.2):=RetL.base hR hsz
        have HF1:Hid (∀ k,nextF F y2 y3 k->F k ∨ w9.heap.size<=k):=fun k hk=>hk.1.imp id (fun h=>Nat.le_trans hsz h)
        clear HT
        obtain ⟨F1,hF1⟩:∃ G,G=nextF F y2 y3:=⟨_,rfl⟩
        rw [<- hF1] at hT HF1 HO9 HO10
        have HT:=Lib.hid hT
        go_simp
        refine hK.out _ _ (hS2.late hG (fun k hk=>.inl (.inl hk))) (fun hS3=>?_)
        clear hK K hR hT hG hsz hF1
        try simp only [Act.put,tD,tB,tC,tA,tE,tF]
        refine wpAnyH_ready (rs:=[8]) (by kernel_rfl) (by simp) ?_
        refine (AllReadyH.cons rfl (fun K hK=>?_) AllReadyH.nil)
        ·go_simp
         have hsz:=hS3.size
         refine (tg_right HT.out hm0 HMM.out x (HZX.out _ hS3) HL1.out HL3.out).mono ?_
         rintro e y4 ⟨⟨A2,n2,c2,rfl,hR⟩,hT,hG⟩
         have HZ9':=Lib.hid (HZ9.out.grp hG HO9.out.2.1);have HO9':Hid (Off (F1) (nextF Ky y3 y4) w9 p9):=⟨HO9.out.1,nextF.off HO9.out.2.1 HZ9.out.here,HO9.out.2.2⟩;clear HZ9 HO9;have HZ9:=HZ9';have HO9:=HO9';clear HZ9' HO9'
         have HZ10':=Lib.hid (HZ10.out.grp hG HO10.out.2.1);have HO10':Hid (Off (F1) (nextF Ky y3 y4) w9 p10):=⟨HO10.out.1,nextF.off HO10.out.2.1 HZ10.out.here,HO10.out.2.2⟩;clear HZ10 HO10;have HZ10:=HZ10';have HO10:=HO10';clear HZ10' HO10'
         replace HR1:=Lib.hid (HR1.out.grp hG HKL.out)
         have HR2:Hid (RetL w9.heap.size y4 A2 n2 c2 (stF S x.v).2.2):=RetL.base hR hsz
         have HK1:Hid (∀ k,nextF Ky y3 y4 k->Ky k ∨ w9.heap.size<=k):=fun k hk=>hk.1.imp id (fun h=>Nat.le_trans hsz h)
         clear HT
         obtain ⟨K1,hK1⟩:∃ G,G=nextF Ky y3 y4:=⟨_,rfl⟩
         rw [<- hK1] at hT HK1 HO9 HO10
         have HT:=Lib.hid hT
         go_simp
         refine hK.out _ _ (hS3.late hG (fun k hk=>.inl (.inr hk))) (fun hS4=>?_)
         clear hK K hR hT hG hsz hK1
         try simp only [Act.put,tD,tB,tC,tA,tE,tF]
         refine wpAnyH_ready (rs:=[11]) (by kernel_rfl) (by simp) ?_
         refine (AllReadyH.cons rfl (fun K hK=>?_) AllReadyH.nil)
         ·simp only [if_pos,Region.wanted]
          refine store_bk_op 36 (.tmp 9) (.tmp 66) rfl p9 0 #[.int .i64 (stF S x.v).2.1,.slice A1 n1 c1] rfl rfl 36 #[.int .i64 0,.slice none 0 0] #[.int .i64 (stF S x.v).2.1,.slice A1 n1 c1] HZ9.out (by kernel_rfl) (by simp) (by kernel_rfl) rfl ?_
          intro y5 hX hgr hs9
          have HZ10':=Lib.hid (HZ10.out.stays hgr (by have:=HNE.out;simp;omega));clear HZ10;have HZ10:=HZ10';clear HZ10'
          have HT':=Lib.hid (HT.out.grp (GrP.of hgr) (fun k hk=>by injection hk with hk;subst hk;exact ⟨HO9.out.1,HO9.out.2.1,Nat.le_trans HB9.out.size HO9.out.2.2⟩));clear HT;have HT:=HT';clear HT'
          replace HR1:=Lib.hid (HR1.out.aside HZ9.out noText0 hgr)
          replace HR2:=Lib.hid (HR2.out.aside HZ9.out noText0 hgr)
          clear HZ9;have HZ9:=Lib.hid hX
          refine hK.out _ _ (hS4.more hgr (fun k hk=>by injection hk with hk;subst hk;exact .inr HO9.out.2.2)) (fun hS5=>?_)
          clear hK K hX hgr hs9
          try simp only [Act.put,tD,tB,tC,tA,tE,tF]
          refine wpAnyH_ready (rs:=[12]) (by kernel_rfl) (by simp) ?_
          refine (AllReadyH.cons rfl (fun K hK=>?_) AllReadyH.nil)
          ·simp only [if_pos,Region.wanted]
           refine store_bk_op 36 (.tmp 10) (.tmp 72) rfl p10 0 #[.int .i64 (stF S x.v).2.1,.slice A2 n2 c2] rfl rfl 36 #[.int .i64 0,.slice none 0 0] #[.int .i64 (stF S x.v).2.1,.slice A2 n2 c2] HZ10.out (by kernel_rfl) (by simp) (by kernel_rfl) rfl ?_
           intro y6 hX hgr hs9
           have HZ9':=Lib.hid (HZ9.out.stays hgr (by have:=HNE.out;simp;omega));clear HZ9;have HZ9:=HZ9';clear HZ9'
           have HT':=Lib.hid (HT.out.grp (GrP.of hgr) (fun k hk=>by injection hk with hk;subst hk;exact ⟨HO10.out.1,HO10.out.2.1,Nat.le_trans HB9.out.size HO10.out.2.2⟩));clear HT;have HT:=HT';clear HT'
           replace HR1:=Lib.hid (HR1.out.aside HZ10.out noText0 hgr)
           replace HR2:=Lib.hid (HR2.out.aside HZ10.out noText0 hgr)
           clear HZ10;have HZ10:=Lib.hid hX
           refine hK.out _ _ (hS5.more hgr (fun k hk=>by injection hk with hk;subst hk;exact .inr HO10.out.2.2)) (fun hS6=>?_)
           clear hK K hX hgr hs9
           try simp only [Act.put,tD,tB,tC,tA,tE,tF]
           refine wpAnyH_done (by kernel_rfl) ?_ _
           go_wp2_with fail
           go_meet
           exact ⟨p9,p10,A1,n1,c1,A2,n2,c2,F1,K1,rfl,rfl,hS6,HT.out,HZ9.out,HZ10.out,HR1.out,HR2.out,HF1.out,HK1.out⟩
     ·simp only [if_pos,Region.wanted]
      refine acell_op rfl ?_
      intro p10 y1 hp hZ hbl
      have HO10:Hid (Off F Ky w9 p10):=⟨fun e=>by have:=(HT.out.b1 _ e).2;omega,fun e=>by have:=(HT.out.b2 _ e).2;omega,by have:=hS0.size;omega⟩
      have HZ10:=Lib.hid hZ
      replace HT:=Lib.hid (HT.out.below hbl)
      refine hK.out _ _ (hS0.trans (GrP.ofBelow hbl)) (fun hS1=>?_)
      clear hK K hp hZ hbl
      try simp only [Act.put,tD,tB,tC,tA,tE,tF]
      refine wpAnyH_ready (rs:=[2,9]) (by kernel_rfl) (by simp) ?_
      refine (AllReadyH.cons rfl (fun K hK=>?_) (AllReadyH.cons rfl (fun K hK=>?_) AllReadyH.nil))
      ·go_simp
       have hsz:=hS1.size
       refine (tg_left HT.out hm0 HMM.out (⟨x.v,Ah,x.m1,ch,Aw,x.m3,cw⟩:Oz) (HZXO.out _ hS1) HL1.out HL3.out).mono ?_
       rintro e y2 ⟨⟨A1,n1,c1,rfl,hR⟩,hT,hG⟩
       have HZ10':=Lib.hid (HZ10.out.grp hG HO10.out.1);have HO10':Hid (Off (nextF F y1 y2) (Ky) w9 p10):=⟨nextF.off HO10.out.1 HZ10.out.here,HO10.out.2.1,HO10.out.2.2⟩;clear HZ10 HO10;have HZ10:=HZ10';have HO10:=HO10';clear HZ10' HO10'
       have HR1:Hid (RetL w9.heap.size y2 A1 n1 c1 (stF S x.v).2.2):=RetL.base hR hsz
       have HF1:Hid (∀ k,nextF F y1 y2 k->F k ∨ w9.heap.size<=k):=fun k hk=>hk.1.imp id (fun h=>Nat.le_trans hsz h)
       clear HT
       obtain ⟨F1,hF1⟩:∃ G,G=nextF F y1 y2:=⟨_,rfl⟩
       rw [<- hF1] at hT HF1 HO10
       have HT:=Lib.hid hT
       go_simp
       refine hK.out _ _ (hS1.late hG (fun k hk=>.inl (.inl hk))) (fun hS2=>?_)
       clear hK K hR hT hG hsz hF1
       try simp only [Act.put,tD,tB,tC,tA,tE,tF]
       refine wpAnyH_ready (rs:=[8,9]) (by kernel_rfl) (by simp) ?_
       refine (AllReadyH.cons rfl (fun K hK=>?_) (AllReadyH.cons rfl (fun K hK=>?_) AllReadyH.nil))
       ·go_simp
        have hsz:=hS2.size
        refine (tg_right HT.out hm0 HMM.out x (HZX.out _ hS2) HL1.out HL3.out).mono ?_
        rintro e y3 ⟨⟨A2,n2,c2,rfl,hR⟩,hT,hG⟩
        have HZ10':=Lib.hid (HZ10.out.grp hG HO10.out.2.1);have HO10':Hid (Off (F1) (nextF Ky y2 y3) w9 p10):=⟨HO10.out.1,nextF.off HO10.out.2.1 HZ10.out.here,HO10.out.2.2⟩;clear HZ10 HO10;have HZ10:=HZ10';have HO10:=HO10';clear HZ10' HO10'
        replace HR1:=Lib.hid (HR1.out.grp hG HKL.out)
        have HR2:Hid (RetL w9.heap.size y3 A2 n2 c2 (stF S x.v).2.2):=RetL.base hR hsz
        have HK1:Hid (∀ k,nextF Ky y2 y3 k->Ky k ∨ w9.heap.size<=k):=fun k hk=>hk.1.imp id (fun h=>Nat.le_trans hsz h)
        clear HT
        obtain ⟨K1,hK1⟩:∃ G,G=nextF Ky y2 y3:=⟨_,rfl⟩
        rw [<- hK1] at hT HK1 HO10
        have HT:=Lib.hid hT
        go_simp
        refine hK.out _ _ (hS2.late hG (fun k hk=>.inl (.inr hk))) (fun hS3=>?_)
        clear hK K hR hT hG hsz hK1
        try simp only [Act.put,tD,tB,tC,tA,tE,tF]
        refine wpAnyH_ready (rs:=[9]) (by kernel_rfl) (by simp) ?_
        refine (AllReadyH.cons rfl (fun K hK=>?_) AllReadyH.nil)
        ·simp only [if_pos,Region.wanted]
         refine acell_op rfl ?_
         intro p9 y4 hp hZ hbl
         have HO9:Hid (Off F1 K1 w9 p9):=⟨fun e=>by have:=(HT.out.b1 _ e).2;omega,fun e=>by have:=(HT.out.b2 _ e).2;omega,by have:=hS3.size;omega⟩
         have HZ9:=Lib.hid hZ
         replace HT:=Lib.hid (HT.out.below hbl)
         have HNE:Hid (p10 ≠ p9):=(by have:=HZ10.out.here;show _ ≠ _;omega);replace HZ10:=Lib.hid (HZ10.out.later hbl)
         replace HR1:=Lib.hid (HR1.out.later hbl)
         replace HR2:=Lib.hid (HR2.out.later hbl)
         refine hK.out _ _ (hS3.trans (GrP.ofBelow hbl)) (fun hS4=>?_)
         clear hK K hp hZ hbl
         try simp only [Act.put,tD,tB,tC,tA,tE,tF]
         refine wpAnyH_ready (rs:=[11]) (by kernel_rfl) (by simp) ?_
         refine (AllReadyH.cons rfl (fun K hK=>?_) AllReadyH.nil)
         ·simp only [if_pos,Region.wanted]
          refine store_bk_op 36 (.tmp 9) (.tmp 66) rfl p9 0 #[.int .i64 (stF S x.v).2.1,.slice A1 n1 c1] rfl rfl 36 #[.int .i64 0,.slice none 0 0] #[.int .i64 (stF S x.v).2.1,.slice A1 n1 c1] HZ9.out (by kernel_rfl) (by simp) (by kernel_rfl) rfl ?_
          intro y5 hX hgr hs9
          have HZ10':=Lib.hid (HZ10.out.stays hgr (by have:=HNE.out;simp;omega));clear HZ10;have HZ10:=HZ10';clear HZ10'
          have HT':=Lib.hid (HT.out.grp (GrP.of hgr) (fun k hk=>by injection hk with hk;subst hk;exact ⟨HO9.out.1,HO9.out.2.1,Nat.le_trans HB9.out.size HO9.out.2.2⟩));clear HT;have HT:=HT';clear HT'
          replace HR1:=Lib.hid (HR1.out.aside HZ9.out noText0 hgr)
          replace HR2:=Lib.hid (HR2.out.aside HZ9.out noText0 hgr)
          clear HZ9;have HZ9:=Lib.hid hX
          refine hK.out _ _ (hS4.more hgr (fun k hk=>by injection hk with hk;subst hk;exact .inr HO9.out.2.2)) (fun hS5=>?_)
          clear hK K hX hgr hs9
          try simp only [Act.put,tD,tB,tC,tA,tE,tF]
          refine wpAnyH_ready (rs:=[12]) (by kernel_rfl) (by simp) ?_
          refine (AllReadyH.cons rfl (fun K hK=>?_) AllReadyH.nil)
          ·simp only [if_pos,Region.wanted]
           refine store_bk_op 36 (.tmp 10) (.tmp 72) rfl p10 0 #[.int .i64 (stF S x.v).2.1,.slice A2 n2 c2] rfl rfl 36 #[.int .i64 0,.slice none 0 0] #[.int .i64 (stF S x.v).2.1,.slice A2 n2 c2] HZ10.out (by kernel_rfl) (by simp) (by kernel_rfl) rfl ?_
           intro y6 hX hgr hs9
           have HZ9':=Lib.hid (HZ9.out.stays hgr (by have:=HNE.out;simp;omega));clear HZ9;have HZ9:=HZ9';clear HZ9'
           have HT':=Lib.hid (HT.out.grp (GrP.of hgr) (fun k hk=>by injection hk with hk;subst hk;exact ⟨HO10.out.1,HO10.out.2.1,Nat.le_trans HB9.out.size HO10.out.2.2⟩));clear HT;have HT:=HT';clear HT'
           replace HR1:=Lib.hid (HR1.out.aside HZ10.out noText0 hgr)
           replace HR2:=Lib.hid (HR2.out.aside HZ10.out noText0 hgr)
           clear HZ10;have HZ10:=Lib.hid hX
           refine hK.out _ _ (hS5.more hgr (fun k hk=>by injection hk with hk;subst hk;exact .inr HO10.out.2.2)) (fun hS6=>?_)
           clear hK K hX hgr hs9
           try simp only [Act.put,tD,tB,tC,tA,tE,tF]
           refine wpAnyH_done (by kernel_rfl) ?_ _
           go_wp2_with fail
           go_meet
           exact ⟨p9,p10,A1,n1,c1,A2,n2,c2,F1,K1,rfl,rfl,hS6,HT.out,HZ9.out,HZ10.out,HR1.out,HR2.out,HF1.out,HK1.out⟩
       ·simp only [if_pos,Region.wanted]
        refine acell_op rfl ?_
        intro p9 y3 hp hZ hbl
        have HO9:Hid (Off F1 Ky w9 p9):=⟨fun e=>by have:=(HT.out.b1 _ e).2;omega,fun e=>by have:=(HT.out.b2 _ e).2;omega,by have:=hS2.size;omega⟩
        have HZ9:=Lib.hid hZ
        replace HT:=Lib.hid (HT.out.below hbl)
        have HNE:Hid (p10 ≠ p9):=(by have:=HZ10.out.here;show _ ≠ _;omega);replace HZ10:=Lib.hid (HZ10.out.later hbl)
        replace HR1:=Lib.hid (HR1.out.later hbl)
        refine hK.out _ _ (hS2.trans (GrP.ofBelow hbl)) (fun hS3=>?_)
        clear hK K hp hZ hbl
        try simp only [Act.put,tD,tB,tC,tA,tE,tF]
        refine wpAnyH_ready (rs:=[8]) (by kernel_rfl) (by simp) ?_
        refine (AllReadyH.cons rfl (fun K hK=>?_) AllReadyH.nil)
        ·go_simp
         have hsz:=hS3.size
         refine (tg_right HT.out hm0 HMM.out x (HZX.out _ hS3) HL1.out HL3.out).mono ?_
         rintro e y4 ⟨⟨A2,n2,c2,rfl,hR⟩,hT,hG⟩
         have HZ9':=Lib.hid (HZ9.out.grp hG HO9.out.2.1);have HO9':Hid (Off (F1) (nextF Ky y3 y4) w9 p9):=⟨HO9.out.1,nextF.off HO9.out.2.1 HZ9.out.here,HO9.out.2.2⟩;clear HZ9 HO9;have HZ9:=HZ9';have HO9:=HO9';clear HZ9' HO9'
         have HZ10':=Lib.hid (HZ10.out.grp hG HO10.out.2.1);have HO10':Hid (Off (F1) (nextF Ky y3 y4) w9 p10):=⟨HO10.out.1,nextF.off HO10.out.2.1 HZ10.out.here,HO10.out.2.2⟩;clear HZ10 HO10;have HZ10:=HZ10';have HO10:=HO10';clear HZ10' HO10'
         replace HR1:=Lib.hid (HR1.out.grp hG HKL.out)
         have HR2:Hid (RetL w9.heap.size y4 A2 n2 c2 (stF S x.v).2.2):=RetL.base hR hsz
         have HK1:Hid (∀ k,nextF Ky y3 y4 k->Ky k ∨ w9.heap.size<=k):=fun k hk=>hk.1.imp id (fun h=>Nat.le_trans hsz h)
         clear HT
         obtain ⟨K1,hK1⟩:∃ G,G=nextF Ky y3 y4:=⟨_,rfl⟩
         rw [<- hK1] at hT HK1 HO9 HO10
         have HT:=Lib.hid hT
         go_simp
         refine hK.out _ _ (hS3.late hG (fun k hk=>.inl (.inr hk))) (fun hS4=>?_)
         clear hK K hR hT hG hsz hK1
         try simp only [Act.put,tD,tB,tC,tA,tE,tF]
         refine wpAnyH_ready (rs:=[11]) (by kernel_rfl) (by simp) ?_
         refine (AllReadyH.cons rfl (fun K hK=>?_) AllReadyH.nil)
         ·simp only [if_pos,Region.wanted]
          refine store_bk_op 36 (.tmp 9) (.tmp 66) rfl p9 0 #[.int .i64 (stF S x.v).2.1,.slice A1 n1 c1] rfl rfl 36 #[.int .i64 0,.slice none 0 0] #[.int .i64 (stF S x.v).2.1,.slice A1 n1 c1] HZ9.out (by kernel_rfl) (by simp) (by kernel_rfl) rfl ?_
          intro y5 hX hgr hs9
          have HZ10':=Lib.hid (HZ10.out.stays hgr (by have:=HNE.out;simp;omega));clear HZ10;have HZ10:=HZ10';clear HZ10'
          have HT':=Lib.hid (HT.out.grp (GrP.of hgr) (fun k hk=>by injection hk with hk;subst hk;exact ⟨HO9.out.1,HO9.out.2.1,Nat.le_trans HB9.out.size HO9.out.2.2⟩));clear HT;have HT:=HT';clear HT'
          replace HR1:=Lib.hid (HR1.out.aside HZ9.out noText0 hgr)
          replace HR2:=Lib.hid (HR2.out.aside HZ9.out noText0 hgr)
          clear HZ9;have HZ9:=Lib.hid hX
          refine hK.out _ _ (hS4.more hgr (fun k hk=>by injection hk with hk;subst hk;exact .inr HO9.out.2.2)) (fun hS5=>?_)
          clear hK K hX hgr hs9
          try simp only [Act.put,tD,tB,tC,tA,tE,tF]
          refine wpAnyH_ready (rs:=[12]) (by kernel_rfl) (by simp) ?_
          refine (AllReadyH.cons rfl (fun K hK=>?_) AllReadyH.nil)
          ·simp only [if_pos,Region.wanted]
           refine store_bk_op 36 (.tmp 10) (.tmp 72) rfl p10 0 #[.int .i64 (stF S x.v).2.1,.slice A2 n2 c2] rfl rfl 36 #[.int .i64 0,.slice none 0 0] #[.int .i64 (stF S x.v).2.1,.slice A2 n2 c2] HZ10.out (by kernel_rfl) (by simp) (by kernel_rfl) rfl ?_
           intro y6 hX hgr hs9
           have HZ9':=Lib.hid (HZ9.out.stays hgr (by have:=HNE.out;simp;omega));clear HZ9;have HZ9:=HZ9';clear HZ9'
           have HT':=Lib.hid (HT.out.grp (GrP.of hgr) (fun k hk=>by injection hk with hk;subst hk;exact ⟨HO10.out.1,HO10.out.2.1,Nat.le_trans HB9.out.size HO10.out.2.2⟩));clear HT;have HT:=HT';clear HT'
           replace HR1:=Lib.hid (HR1.out.aside HZ10.out noText0 hgr)
           replace HR2:=Lib.hid (HR2.out.aside HZ10.out noText0 hgr)
           clear HZ10;have HZ10:=Lib.hid hX
           refine hK.out _ _ (hS5.more hgr (fun k hk=>by injection hk with hk;subst hk;exact .inr HO10.out.2.2)) (fun hS6=>?_)
           clear hK K hX hgr hs9
           try simp only [Act.put,tD,tB,tC,tA,tE,tF]
           refine wpAnyH_done (by kernel_rfl) ?_ _
           go_wp2_with fail
           go_meet
           exact ⟨p9,p10,A1,n1,c1,A2,n2,c2,F1,K1,rfl,rfl,hS6,HT.out,HZ9.out,HZ10.out,HR1.out,HR2.out,HF1.out,HK1.out⟩
      ·simp only [if_pos,Region.wanted]
       refine acell_op rfl ?_
       intro p9 y2 hp hZ hbl
       have HO9:Hid (Off F Ky w9 p9):=⟨fun e=>by have:=(HT.out.b1 _ e).2;omega,fun e=>by have:=(HT.out.b2 _ e).2;omega,by have:=hS1.size;omega⟩
       have HZ9:=Lib.hid hZ
       replace HT:=Lib.hid (HT.out.below hbl)
       have HNE:Hid (p10 ≠ p9):=(by have:=HZ10.out.here;show _ ≠ _;omega);replace HZ10:=Lib.hid (HZ10.out.later hbl)
       refine hK.out _ _ (hS1.trans (GrP.ofBelow hbl)) (fun hS2=>?_)
       clear hK K hp hZ hbl
       try simp only [Act.put,tD,tB,tC,tA,tE,tF]
       refine wpAnyH_ready (rs:=[2]) (by kernel_rfl) (by simp) ?_
       refine (AllReadyH.cons rfl (fun K hK=>?_) AllReadyH.nil)
       ·go_simp
        have hsz:=hS2.size
        refine (tg_left HT.out hm0 HMM.out (⟨x.v,Ah,x.m1,ch,Aw,x.m3,cw⟩:Oz) (HZXO.out _ hS2) HL1.out HL3.out).mono ?_
        rintro e y3 ⟨⟨A1,n1,c1,rfl,hR⟩,hT,hG⟩
        have HZ9':=Lib.hid (HZ9.out.grp hG HO9.out.1);have HO9':Hid (Off (nextF F y2 y3) (Ky) w9 p9):=⟨nextF.off HO9.out.1 HZ9.out.here,HO9.out.2.1,HO9.out.2.2⟩;clear HZ9 HO9;have HZ9:=HZ9';have HO9:=HO9';clear HZ9' HO9'
        have HZ10':=Lib.hid (HZ10.out.grp hG HO10.out.1);have HO10':Hid (Off (nextF F y2 y3) (Ky) w9 p10):=⟨nextF.off HO10.out.1 HZ10.out.here,HO10.out.2.1,HO10.out.2.2⟩;clear HZ10 HO10;have HZ10:=HZ10';have HO10:=HO10';clear HZ10' HO10'
        have HR1:Hid (RetL w9.heap.size y3 A1 n1 c1 (stF S x.v).2.2):=RetL.base hR hsz
        have HF1:Hid (∀ k,nextF F y2 y3 k->F k ∨ w9.heap.size<=k):=fun k hk=>hk.1.imp id (fun h=>Nat.le_trans hsz h)
        clear HT
        obtain ⟨F1,hF1⟩:∃ G,G=nextF F y2 y3:=⟨_,rfl⟩
        rw [<- hF1] at hT HF1 HO9 HO10
        have HT:=Lib.hid hT
        go_simp
        refine hK.out _ _ (hS2.late hG (fun k hk=>.inl (.inl hk))) (fun hS3=>?_)
        clear hK K hR hT hG hsz hF1
        try simp only [Act.put,tD,tB,tC,tA,tE,tF]
        refine wpAnyH_ready (rs:=[8]) (by kernel_rfl) (by simp) ?_
        refine (AllReadyH.cons rfl (fun K hK=>?_) AllReadyH.nil)
        ·go_simp
         have hsz:=hS3.size
         refine (tg_right HT.out hm0 HMM.out x (HZX.out _ hS3) HL1.out HL3.out).mono ?_
         rintro e y4 ⟨⟨A2,n2,c2,rfl,hR⟩,hT,hG⟩
         have HZ9':=Lib.hid (HZ9.out.grp hG HO9.out.2.1);have HO9':Hid (Off (F1) (nextF Ky y3 y4) w9 p9):=⟨HO9.out.1,nextF.off HO9.out.2.1 HZ9.out.here,HO9.out.2.2⟩;clear HZ9 HO9;have HZ9:=HZ9';have HO9:=HO9';clear HZ9' HO9'
         have HZ10':=Lib.hid (HZ10.out.grp hG HO10.out.2.1);have HO10':Hid (Off (F1) (nextF Ky y3 y4) w9 p10):=⟨HO10.out.1,nextF.off HO10.out.2.1 HZ10.out.here,HO10.out.2.2⟩;clear HZ10 HO10;have HZ10:=HZ10';have HO10:=HO10';clear HZ10' HO10'
         replace HR1:=Lib.hid (HR1.out.grp hG HKL.out)
         have HR2:Hid (RetL w9.heap.size y4 A2 n2 c2 (stF S x.v).2.2):=RetL.base hR hsz
         have HK1:Hid (∀ k,nextF Ky y3 y4 k->Ky k ∨ w9.heap.size<=k):=fun k hk=>hk.1.imp id (fun h=>Nat.le_trans hsz h)
         clear HT
         obtain ⟨K1,hK1⟩:∃ G,G=nextF Ky y3 y4:=⟨_,rfl⟩
         rw [<- hK1] at hT HK1 HO9 HO10
         have HT:=Lib.hid hT
         go_simp
         refine hK.out _ _ (hS3.late hG (fun k hk=>.inl (.inr hk))) (fun hS4=>?_)
         clear hK K hR hT hG hsz hK1
         try simp only [Act.put,tD,tB,tC,tA,tE,tF]
         refine wpAnyH_ready (rs:=[11]) (by kernel_rfl) (by simp) ?_
         refine (AllReadyH.cons rfl (fun K hK=>?_) AllReadyH.nil)
         ·simp only [if_pos,Region.wanted]
          refine store_bk_op 36 (.tmp 9) (.tmp 66) rfl p9 0 #[.int .i64 (stF S x.v).2.1,.slice A1 n1 c1] rfl rfl 36 #[.int .i64 0,.slice none 0 0] #[.int .i64 (stF S x.v).2.1,.slice A1 n1 c1] HZ9.out (by kernel_rfl) (by simp) (by kernel_rfl) rfl ?_
          intro y5 hX hgr hs9
          have HZ10':=Lib.hid (HZ10.out.stays hgr (by have:=HNE.out;simp;omega));clear HZ10;have HZ10:=HZ10';clear HZ10'
          have HT':=Lib.hid (HT.out.grp (GrP.of hgr) (fun k hk=>by injection hk with hk;subst hk;exact ⟨HO9.out.1,HO9.out.2.1,Nat.le_trans HB9.out.size HO9.out.2.2⟩));clear HT;have HT:=HT';clear HT'
          replace HR1:=Lib.hid (HR1.out.aside HZ9.out noText0 hgr)
          replace HR2:=Lib.hid (HR2.out.aside HZ9.out noText0 hgr)
          clear HZ9;have HZ9:=Lib.hid hX
          refine hK.out _ _ (hS4.more hgr (fun k hk=>by injection hk with hk;subst hk;exact .inr HO9.out.2.2)) (fun hS5=>?_)
          clear hK K hX hgr hs9
          try simp only [Act.put,tD,tB,tC,tA,tE,tF]
          refine wpAnyH_ready (rs:=[12]) (by kernel_rfl) (by simp) ?_
          refine (AllReadyH.cons rfl (fun K hK=>?_) AllReadyH.nil)
          ·simp only [if_pos,Region.wanted]
           refine store_bk_op 36 (.tmp 10) (.tmp 72) rfl p10 0 #[.int .i64 (stF S x.v).2.1,.slice A2 n2 c2] rfl rfl 36 #[.int .i64 0,.slice none 0 0] #[.int .i64 (stF S x.v).2.1,.slice A2 n2 c2] HZ10.out (by kernel_rfl) (by simp) (by kernel_rfl) rfl ?_
           intro y6 hX hgr hs9
           have HZ9':=Lib.hid (HZ9.out.stays hgr (by have:=HNE.out;simp;omega));clear HZ9;have HZ9:=HZ9';clear HZ9'
           have HT':=Lib.hid (HT.out.grp (GrP.of hgr) (fun k hk=>by injection hk with hk;subst hk;exact ⟨HO10.out.1,HO10.out.2.1,Nat.le_trans HB9.out.size HO10.out.2.2⟩));clear HT;have HT:=HT';clear HT'
           replace HR1:=Lib.hid (HR1.out.aside HZ10.out noText0 hgr)
           replace HR2:=Lib.hid (HR2.out.aside HZ10.out noText0 hgr)
           clear HZ10;have HZ10:=Lib.hid hX
           refine hK.out _ _ (hS5.more hgr (fun k hk=>by injection hk with hk;subst hk;exact .inr HO10.out.2.2)) (fun hS6=>?_)
           clear hK K hX hgr hs9
           try simp only [Act.put,tD,tB,tC,tA,tE,tF]
           refine wpAnyH_done (by kernel_rfl) ?_ _
           go_wp2_with fail
           go_meet
           exact ⟨p9,p10,A1,n1,c1,A2,n2,c2,F1,K1,rfl,rfl,hS6,HT.out,HZ9.out,HZ10.out,HR1.out,HR2.out,HF1.out,HK1.out⟩
    case rest=>
     obtain ⟨p9,p10,A1,n1,c1,A2,n2,c2,F1,K1,rfl,rfl,hG,hT,hZ9,hZ10,hR1,hR2,hF1,hK1⟩:=hcut
     have HG:=Lib.hid hG;have HTc:=Lib.hid hT;have HZ9:=Lib.hid hZ9;have HZ10:=Lib.hid hZ10
     have HR1:=Lib.hid hR1;have HR2:=Lib.hid hR2
     have hn1:n1<=c1:=hR1.2.2.1;have hn12:c1<=9223372036854775807:=hR1.2.2.2.1
     have hn2:n2<=c2:=hR2.2.2.1;have hn22:c2<=9223372036854775807:=hR2.2.2.2.1
     have KS:=Lib.hid (rsameAns_any (stF S x.v).2.1 (stF S x.v).2.1 A1 A2 n1 c1 n2 c2 (stF S x.v).2.2 (stF S x.v).2.2 wc (Lib.hid hR1.1) (Lib.hid hR2.1) (Lib.hid hR1.2.1) (Lib.hid hR2.2.1) hn1 hn12 hn2 hn22)
     have HOFF:Hid (∀ gl,(Ah=some ⟨gl,0,none⟩ ∨ Aw=some ⟨gl,0,none⟩) -> ¬ F1 gl /\ ¬ K1 gl/\w.heap.size<=gl):=fun gl hgl=>by
      obtain ⟨h1,h2,h3⟩:=HRW.out gl hgl
      refine ⟨fun e=>?_,fun e=>?_,h1⟩
      ·rcases hF1 gl e with h4 | h4
       ·have:=(HFL.out gl (.inl h4)).2;omega
       ·omega
      ·rcases hK1 gl e with h4 | h4
       ·have:=(HFL.out gl (.inr h4)).2;omega
       ·omega
     clear hG hT hZ9 hZ10 hR1 hR2 hF1 hK1 hn1 hn12 hn2 hn22
     go_wp2_with (first | (with_reducible refine load_bk rfl 36 _ rfl p9 0 rfl 36 #[.int .i64 (stF S x.v).2.1,.slice A1 n1 c1] #[.int .i64 (stF S x.v).2.1,.slice A1 n1 c1] _ HZ9.out (Part.whole _) Tryz.underlying36 rfl (by kernel_rfl) ?_) | (with_reducible refine load_bk rfl 36 _ rfl p10 0 rfl 36 #[.int .i64 (stF S x.v).2.1,.slice A2 n2 c2] #[.int .i64 (stF S x.v).2.1,.slice A2 n2 c2] _ HZ10.out (Part.whole _) Tryz.underlying36 rfl (by kernel_rfl) ?_))
     refine KS.out.mono ?_
     rintro e w11 ⟨rfl,hb11⟩
     rw [sameAns_refl]
     have HT:=Lib.hid (HTc.out.below hb11)
     have HRA:Hid (RowF w11 Ah x.m1):=LbNew.rowF ⟨(HGA.out wc HG.out).own.below hb11,HOKW.out.l1.sz⟩
     have HRB:Hid (RowF w11 Aw x.m3):=LbNew.rowF ⟨(HGB.out wc HG.out).own.below hb11,HOKW.out.l3.sz⟩
     have HW1:=Lib.hid hw1
     clear hw1 hp1 hp12 hp3 hp32
     clear hb11 KS HZ9 HZ10 HR1 HR2 HTc HG HGA HGB HGW HZXO HZX HXR HRW HFL HKL HNP8 HP8 HSZ5 HB96 HB9 HT9
     go_wp2_with fail
     go_loopw [79] (fun s79 wr=>∃ k:Nat,k<=x.m1/\s79 = .int .i64 k/\Hid (Tg w wr g h F1 K1 (stF S x.v).1 (stF S x.v).1 (1001000 * (i:Int)+1001000) (1001000 * (i:Int)+1001000))/\Hid (RowF wr Ah x.m1)/\Hid (RowF wr Aw x.m3)) (fun s79 wr=>x.m1 - (intOf s79).toNat)
     case atStart=>exact ⟨0,Nat.zero_le _,rfl,HT,HRA,HRB⟩
     case round=>
      clear HT HRA HRB
      obtain ⟨k,hk,rfl,HT,HRA,HRB⟩:=hrel
      by_cases hlt:k<x.m1
      ·rcases (HRA).out with h0 | ⟨gl,cur,hA,hB,hs⟩
       ·omega
       have hcc:wr.cell? ⟨gl,k * 2+1,none⟩=some (cur[k * 2+1]'(by omega)):=by rw [hB.cellAt];exact Array.getElem?_eq_getElem _
       have hff:wr.frozen? ⟨gl,k * 2+1,none⟩=false:=hB.free _
       obtain ⟨v0,hv0⟩:∃ v,v=cur[k * 2+1]'(by omega):=⟨_,rfl⟩
       rw [<- hv0] at hcc
       have hoff:=(fun gl (e:Ah=some ⟨gl,0,none⟩)=>HOFF.out gl (.inl e)) gl hA
       have HT2:Hid (Tg w (wr.setCell ⟨gl,k * 2+1,none⟩ (.string ⟨#[111,116,104,101,114]⟩)) g h F1 K1 (stF S x.v).1 (stF S x.v).1 (1001000 * (i:Int)+1001000) (1001000 * (i:Int)+1001000)):=HT.out.grp (q:=fun k=>k=gl) ((GrP.refl (fun k=>k=gl) wr).set (a:=⟨gl,k * 2+1,none⟩) rfl _) (fun k hk=>by subst hk;exact hoff)
       have HRA2:Hid (RowF (wr.setCell ⟨gl,k * 2+1,none⟩ (.string ⟨#[111,116,104,101,114]⟩)) Ah x.m1):=HRA.out.set _ _ _
       have HRB2:Hid (RowF (wr.setCell ⟨gl,k * 2+1,none⟩ (.string ⟨#[111,116,104,101,114]⟩)) Aw x.m3):=HRB.out.set _ _ _
       obtain ⟨W7,hW7⟩:∃ W,W=wr.setCell ⟨gl,k * 2+1,none⟩ (.string ⟨#[111,116,104,101,114]⟩):=⟨_,rfl⟩
       rw [<- hW7] at HT2 HRA2 HRB2
       have HW7:=Lib.hid hW7;have HV0:=Lib.hid hcc;have HF0:=Lib.hid hff
       have hwk:wrap64 ((k:Int)+1)=((k+1:Nat):Int):=by have:=HM1.out;unfold wrap64;omega
       have HAA:=Lib.hid hA
       clear hcc hff hoff hB hs hv0 hW7 HT HRA HRB hA
       rw [HAA.out]
       rw [HAA.out] at HRA2
       go_wp2_with ((with_reducible refine store_cell rfl _ _ _ rfl ⟨gl,k * 2+1,none⟩ (.string ⟨#[111,116,104,101,114]⟩) rfl rfl v0 HV0.out HF0.out (by kernel_rfl) rfl rfl ?_);intro w7 hw7;rw [<- HW7.out] at hw7;subst hw7)
       go_round
       case rel=>exact ⟨k+1,hlt,by go_num,HT2,HRA2,HRB2⟩
       case measure=>
        first
        | (rw [hwk];show x.m1 - ((k+1:Nat):Int).toNat<x.m1 - ((k:Nat):Int).toNat;rw [Int.toNat_natCast,Int.toNat_natCast];exact Nat.sub_lt_sub_left hlt (Nat.lt_succ_self k))
        | (show x.m1 - ((k:Int)+1).toNat<x.m1 - ((k:Nat):Int).toNat;clear hwk;omega)
      ·have hke:k=x.m1:=Nat.le_antisymm hk (Nat.not_lt.1 hlt)
       clear hk hlt
       subst hke
       go_wp2_with fail
       go_loopw [89] (fun s89 wr=>∃ k:Nat,k<=x.m3/\s89 = .int .i64 k/\Hid (Tg w wr g h F1 K1 (stF S x.v).1 (stF S x.v).1 (1001000 * (i:Int)+1001000) (1001000 * (i:Int)+1001000))/\Hid (RowF wr Ah x.m1)/\Hid (RowF wr Aw x.m3)) (fun s89 wr=>x.m3 - (intOf s89).toNat)
       case atStart=>exact ⟨0,Nat.zero_le _,rfl,HT,HRA,HRB⟩
       case round=>
        clear HT HRA HRB
        obtain ⟨k,hk,rfl,HT,HRA,HRB⟩:=hrel
        by_cases hlt:k<x.m3
        ·rcases (HRB).out with h0 | ⟨gl,cur,hA,hB,hs⟩
         ·omega
         have hcc:wr.cell? ⟨gl,k * 2+1,none⟩=some (cur[k * 2+1]'(by omega)):=by rw [hB.cellAt];exact Array.getElem?_eq_getElem _
         have hff:wr.frozen? ⟨gl,k * 2+1,none⟩=false:=hB.free _
         obtain ⟨v0,hv0⟩:∃ v,v=cur[k * 2+1]'(by omega):=⟨_,rfl⟩
         rw [<- hv0] at hcc
         have hoff:=(fun gl (e:Aw=some ⟨gl,0,none⟩)=>HOFF.out gl (.inr e)) gl hA
         have HT2:Hid (Tg w (wr.setCell ⟨gl,k * 2+1,none⟩ (.string ⟨#[111,116,104,101,114]⟩)) g h F1 K1 (stF S x.v).1 (stF S x.v).1 (1001000 * (i:Int)+1001000) (1001000 * (i:Int)+1001000)):=HT.out.grp (q:=fun k=>k=gl) ((GrP.refl (fun k=>k=gl) wr).set (a:=⟨gl,k * 2+1,none⟩) rfl _) (fun k hk=>by subst hk;exact hoff)
         have HRA2:Hid (RowF (wr.setCell ⟨gl,k * 2+1,none⟩ (.string ⟨#[111,116,104,101,114]⟩)) Ah x.m1):=HRA.out.set _ _ _
         have HRB2:Hid (RowF (wr.setCell ⟨gl,k * 2+1,none⟩ (.string ⟨#[111,116,104,101,114]⟩)) Aw x.m3):=HRB.out.set _ _ _
         obtain ⟨W7,hW7⟩:∃ W,W=wr.setCell ⟨gl,k * 2+1,none⟩ (.string ⟨#[111,116,104,101,114]⟩):=⟨_,rfl⟩
         rw [<- hW7] at HT2 HRA2 HRB2
         have HW7:=Lib.hid hW7;have HV0:=Lib.hid hcc;have HF0:=Lib.hid hff
         have hwk:wrap64 ((k:Int)+1)=((k+1:Nat):Int):=by have:=HM3.out;unfold wrap64;omega
         have HAA:=Lib.hid hA
         clear hcc hff hoff hB hs hv0 hW7 HT HRA HRB hA
         rw [HAA.out]
         rw [HAA.out] at HRB2
         go_wp2_with ((with_reducible refine store_cell rfl _ _ _ rfl ⟨gl,k * 2+1,none⟩ (.string ⟨#[111,116,104,101,114]⟩) rfl rfl v0 HV0.out HF0.out (by kernel_rfl) rfl rfl ?_);intro w7 hw7;rw [<- HW7.out] at hw7;subst hw7)
         go_round
         case rel=>exact ⟨k+1,hlt,by go_num,HT2,HRA2,HRB2⟩
         case measure=>
          first
          | (rw [hwk];show x.m3 - ((k+1:Nat):Int).toNat<x.m3 - ((k:Nat):Int).toNat;rw [Int.toNat_natCast,Int.toNat_natCast];exact Nat.sub_lt_sub_left hlt (Nat.lt_succ_self k))
          | (show x.m3 - ((k:Int)+1).toNat<x.m3 - ((k:Nat):Int).toNat;clear hwk;omega)
        ·have hke:k=x.m3:=Nat.le_antisymm hk (Nat.not_lt.1 hlt)
         clear hk hlt
         clear HRA HRB
         subst hke
         have hee:1001000 * (i:Int)+1001000=1001000 * ((i+1:Nat):Int):=by omega
         have HTn:Hid (Tg w wr g h F1 K1 (stF S x.v).1 (stF S x.v).1 (1001000 * ((i+1:Nat):Int)) (1001000 * ((i+1:Nat):Int))):=by have h1:=HT.out;rw [hee] at h1;exact h1
         clear HT hee
         go_wp2_with fail
         have hw1:=HW1.out
         go_round
         case rel=>exact ⟨i+1,F1,K1,(stF S x.v).1,by omega,by go_num,HTn⟩
         case measure=>
          first
          | (rw [hw1];show N - ((i+1:Nat):Int).toNat<N - ((i:Nat):Int).toNat;rw [Int.toNat_natCast,Int.toNat_natCast];omega)
          | (show N - ((i:Int)+1).toNat<N - ((i:Nat):Int).toNat;omega)
   ·skip
    have hie:i=N:=by omega
    subst hie
    clear hi hin
    obtain ⟨w5,hw5⟩:∃ W,W=wr:=⟨_,rfl⟩
    rw [<- hw5] at HT ⊢
    clear hw5 wr
    go_wp2_with fail
    refine (tg_state1 HT.out).mono ?_
    rintro e w6 ⟨⟨v,Sa,rfl,hO,hS,hb,hck,hnx⟩,hb6⟩
    have HO6:=Lib.hid hO
    have HT6:=Lib.hid (HT.out.below hb6)
    have HLT:Hid (∀ k,F k ∨ Ky k->k<w5.heap.size):=fun k hk=>hk.elim (fun h=>(HT.out.b1 k h).2) (fun h=>(HT.out.b2 k h).2)
    have HW5:Hid (w.heap.size<=w5.heap.size):=HT.out.be.size
    clear hO hb hck hnx hb6 HT
    go_wp2_with ((with_reducible refine store_bk rfl 31 (.tmp 13) (.tmp 99) rfl w6.heap.size 0 v.arr rfl rfl 31 _ v.arr (Bk.fresh _ _ _) (by kernel_rfl) (by simp) (by kernel_rfl) rfl ?_);intro w7 hB7 hg7 hs7;have HB7:=Lib.hid hB7;have HL7:Hid (Below w6.heap.size w6 w7):=((Below.refl _ _).alloc (Nat.le_refl _) _).grown hg7 (by simp) (by intro k hk;injection hk with hk;omega);have HRS:Hid (RdSt w7 v Sa):=hS.later HL7.out;clear hB7 hg7 hs7;refine haltW ?_)
    refine Lib.hid ?_
    clear hS
    obtain ⟨ck,nx,A,N2,cA,B,K2,cB,C,n2,cC⟩:=v
    have hNc:N2<=cA:=HRS.out.cA
    have hNc2:cA<=9223372036854775807:=HRS.out.cA2
    have hnc:n2<=cC:=HRS.out.cC
    have hnc2:cC<=9223372036854775807:=HRS.out.cC2
    have HNl:Hid (N2=Sa.M.length):=HRS.out.N
    have Hnl:Hid (n2=Sa.J.length):=HRS.out.n
    have HLM:Hid (∀ x ∈ Sa.M,LbOk w7 x.1.A x.1.n x.1.cp x.2):=fun x hx=>(HRS.out.oM x hx).lb
    have HO7:Hid (OwnS w7 w5.heap.size (.slice A N2 cA) (.slice B K2 cB) (.slice C n2 cC) Sa):=HO6.out.below HL7.out
    have HT7:=Lib.hid (HT6.out.below HL7.out)
    have HX3:Hid (Bk w7 w6.heap.size 31 (⟨ck,nx,A,N2,cA,B,K2,cB,C,n2,cC⟩:Sv).arr):=HB7.out
    have HP3:Hid (∀ k,(blkS (.slice A N2 cA) (.slice B K2 cB) (.slice C n2 cC) Sa) k->k ≠ w6.heap.size):=HO7.out.offBk HX3.out
    have HPb:Hid (∀ k,(blkS (.slice A N2 cA) (.slice B K2 cB) (.slice C n2 cC) Sa) k -> ¬ F k /\ ¬ Ky k/\w.heap.size<=k):=fun k hk=>by
     have h1:=(HO7.out.blk hk).1
     exact ⟨fun e=>by have:=HLT.out k (.inl e);omega,fun e=>by have:=HLT.out k (.inr e);omega,Nat.le_trans HW5.out h1⟩
    have HMu0:=Lib.hid HO7.out.mut
    have c3:w7.cell? ⟨w6.heap.size,2,none⟩=some (.slice A N2 cA):=HX3.out.cellAt 2
    have HFIN:Hid (∀ W,GrP (blkS (.slice A N2 cA) (.slice B K2 cB) (.slice C n2 cC) Sa) w7 W->Tg w W g h F Ky S S (1001000 * (i:Int)) (1001000 * (i:Int))):=fun W hG=>HT7.out.grp hG HPb.out
    clear HO7 HO6 HT6 HRS HL7 HB7 HLT HW5 HT7 HPb
    go_wp2_with fail
    clear c3
    go_loopw [103] (fun s103 wr=>∃ k:Nat,k<=N2/\s103 = .int .i64 k/\Hid (Mut wr w5.heap.size A N2 cA B K2 cB C n2 cC Sa)/\Hid (GrP (blkS (.slice A N2 cA) (.slice B K2 cB) (.slice C n2 cC) Sa) w7 wr)) (fun s103 wr=>N2 - (intOf s103).toNat)
    case atStart=>exact ⟨0,Nat.zero_le _,rfl,HMu0,(GrP.refl _ _)⟩
    case round=>
     clear HMu0
     obtain ⟨k,hk,rfl,HMu,HG⟩:=hrel
     have c3:wr.cell? ⟨w6.heap.size,2,none⟩=some (.slice A N2 cA):=(HX3.out.grp HG.out (fun e=>HP3.out _ e rfl)).cellAt 2
     by_cases hlt:k<N2
     ·have hlk:k<Sa.M.length:=by have:=HNl.out;omega
      obtain ⟨g2,hA,hgb,⟨v0,hv0⟩,hfz,hMu1⟩:=HMu.out.setU hlt false
      subst hA
      obtain ⟨x,hx⟩:∃ x,x=Sa.M[k]:=⟨_,rfl⟩
      have HMu1:=Lib.hid hMu1;have HX:=Lib.hid hx;have HV0:=Lib.hid hv0;have HF0:=Lib.hid hfz
      clear hMu1 hx hv0 hfz
      have hF2:GrP (blkS (.slice (some ⟨g2,0,none⟩) N2 cA) (.slice B K2 cB) (.slice C n2 cC) Sa) w7 (wr.setCell ⟨g2,k * 7+5,none⟩ (.bool false)):=HG.out.set (a:=⟨g2,k * 7+5,none⟩) (.inl rfl) _
      have hF3:(wr.setCell ⟨g2,k * 7+5,none⟩ (.bool false)).cell? ⟨w6.heap.size,2,none⟩=some (.slice (some ⟨g2,0,none⟩) N2 cA):=(HX3.out.grp hF2 (fun e=>HP3.out _ e rfl)).cellAt 2
      have hF4:(wr.setCell ⟨g2,k * 7+5,none⟩ (.bool false)).cell? ⟨g2,k * 7+4,none⟩=some (.slice x.1.A x.1.n x.1.cp):=by
       obtain ⟨g',hg',hc'⟩:=HMu1.out.headM hlt hlk
       injection hg' with hg'
       injection hg' with hg'
       subst hg'
       rw [HX.out];exact hc'
      obtain ⟨W7,hW7⟩:∃ W,W=wr.setCell ⟨g2,k * 7+5,none⟩ (.bool false):=⟨_,rfl⟩
      have hF1:=HMu1.out
      rw [<- hW7] at hF1 hF2 hF3 hF4
      have HMu7:=Lib.hid hF1;have HG7:=Lib.hid hF2;have HC37:=Lib.hid hF3;have HC47:=Lib.hid hF4;have HW7:=Lib.hid hW7
      clear hF1 hF2 hF3 hF4 hW7 HMu1 HMu HG
      go_wp2_with ((with_reducible refine store_cell rfl _ _ _ rfl ⟨g2,k * 7+5,none⟩ (.bool false) rfl rfl v0 HV0.out HF0.out (by kernel_rfl) rfl rfl ?_);intro w8 hw8;rw [<- HW7.out] at hw8;subst hw8;have c37:=HC37.out;have c47:=HC47.out)
      clear c37 c47
      go_loopw [119] (fun s119 wr=>∃ j:Nat,j<=x.1.n/\s119 = .int .i64 j/\Hid (Mut wr w5.heap.size (some ⟨g2,0,none⟩) N2 cA B K2 cB C n2 cC Sa)/\Hid (GrP (blkS (.slice (some ⟨g2,0,none⟩) N2 cA) (.slice B K2 cB) (.slice C n2 cC) Sa) w7 wr)) (fun s119 wr=>x.1.n - (intOf s119).toNat)
      case atStart=>exact ⟨0,Nat.zero_le _,rfl,HMu7,HG7⟩
      case round=>
       clear HMu7 HG7 HC37 HC47 HW7 HV0 HF0 c3
       obtain ⟨j,hj,rfl,HMu,HG⟩:=hrel
       by_cases hlt2:j<x.1.n
       ·have hxm:x ∈ Sa.M:=by rw [HX.out];exact List.getElem_mem hlk
        obtain ⟨gl,hxA,⟨v1,hv1⟩,hfz,hMu1⟩:=HMu.out.setL (HMu.out.lM x hxm) hlt2 (show 0<2 by omega) ⟨#[111,116,104,101,114]⟩
        simp only [Nat.add_zero] at hv1 hfz hMu1
        have c3:wr.cell? ⟨w6.heap.size,2,none⟩=some (.slice (some ⟨g2,0,none⟩) N2 cA):=(HX3.out.grp HG.out (fun e=>HP3.out _ e rfl)).cellAt 2
        have c4:wr.cell? ⟨g2,k * 7+4,none⟩=some (.slice (some ⟨gl,0,none⟩) x.1.n x.1.cp):=by
         obtain ⟨g',hg',hc'⟩:=HMu.out.headM hlt hlk
         injection hg' with hg';injection hg' with hg';subst hg'
         rw [<- hxA,HX.out];exact hc'
        have hxo:=HLM.out x hxm
        have hx1:x.1.n<=x.1.cp:=hxo.cap
        have hx2:x.1.cp<=9223372036854775807:=hxo.cap2
        have hin2:(blkS (.slice (some ⟨g2,0,none⟩) N2 cA) (.slice B K2 cB) (.slice C n2 cC) Sa) gl:=.inr (.inr (.inr (.inl ⟨x,hxm,_,hxA,rfl⟩)))
        have HMu1:=Lib.hid hMu1;have HIN:=Lib.hid hin2;have HV1:=Lib.hid hv1;have HF1:=Lib.hid hfz
        clear hMu1 hxo hin2 hxm hv1 hfz hxA
        have hF2:GrP (blkS (.slice (some ⟨g2,0,none⟩) N2 cA) (.slice B K2 cB) (.slice C n2 cC) Sa) w7 (wr.setCell ⟨gl,j * 2,none⟩ (.string ⟨#[111,116,104,101,114]⟩)):=HG.out.set (a:=⟨gl,j * 2,none⟩) HIN.out _
        obtain ⟨W8,hW8⟩:∃ W,W=wr.setCell ⟨gl,j * 2,none⟩ (.string ⟨#[111,116,104,101,114]⟩):=⟨_,rfl⟩
        have hF1:=HMu1.out
        rw [<- hW8] at hF1 hF2
        have HMu8:=Lib.hid hF1;have HG8:=Lib.hid hF2;have HW8:=Lib.hid hW8
        clear hF1 hF2 hW8 HMu1 HMu HG
        go_wp2_with ((with_reducible refine store_cell rfl _ _ _ rfl ⟨gl,j * 2,none⟩ (.string ⟨#[111,116,104,101,114]⟩) rfl rfl v1 HV1.out HF1.out (by kernel_rfl) rfl rfl ?_);intro w8 hw8;rw [<- HW8.out] at hw8;subst hw8)
        go_round
        case rel=>exact ⟨j+1,by omega,by go_num,HMu8,HG8⟩
        case measure=>simp [intOf];omega
       ·have hj':j=x.1.n:=by omega
        go_wp2_with fail
        go_round
        case rel=>exact ⟨k+1,by omega,by go_num,HMu,HG⟩
        case measure=>simp [intOf];omega
     ·clear c3
      have c3:wr.cell? ⟨w6.heap.size,4,none⟩=some (.slice C n2 cC):=(HX3.out.grp HG.out (fun e=>HP3.out _ e rfl)).cellAt 4
      go_wp2_with fail
      clear c3
      go_loopw [137] (fun s137 wr=>∃ k:Nat,k<=n2/\s137 = .int .i64 k/\Hid (Mut wr w5.heap.size A N2 cA B K2 cB C n2 cC Sa)/\Hid (GrP (blkS (.slice A N2 cA) (.slice B K2 cB) (.slice C n2 cC) Sa) w7 wr)) (fun s137 wr=>n2 - (intOf s137).toNat)
      case atStart=>exact ⟨0,Nat.zero_le _,rfl,HMu,HG⟩
      case round=>
       clear HMu HG
       obtain ⟨k2,hk2,rfl,HMu,HG⟩:=hrel
       by_cases hlt2:k2<n2
       ·have c3:wr.cell? ⟨w6.heap.size,4,none⟩=some (.slice C n2 cC):=(HX3.out.grp HG.out (fun e=>HP3.out _ e rfl)).cellAt 4
        obtain ⟨g2,hA,hgb,⟨v0,hv0⟩,hfz,hMu1⟩:=HMu.out.setD hlt2 ⟨#[111,116,104,101,114]⟩
        subst hA
        have HMu1:=Lib.hid hMu1;have HV0:=Lib.hid hv0;have HF0:=Lib.hid hfz
        clear hMu1 hv0 hfz
        have hF2:GrP (blkS (.slice A N2 cA) (.slice B K2 cB) (.slice (some ⟨g2,0,none⟩) n2 cC) Sa) w7 (wr.setCell ⟨g2,k2 * 13+11,none⟩ (.string ⟨#[111,116,104,101,114]⟩)):=HG.out.set (a:=⟨g2,k2 * 13+11,none⟩) (.inr (.inr (.inl rfl))) _
        obtain ⟨W7,hW7⟩:∃ W,W=wr.setCell ⟨g2,k2 * 13+11,none⟩ (.string ⟨#[111,116,104,101,114]⟩):=⟨_,rfl⟩
        have hF1:=HMu1.out
        rw [<- hW7] at hF1 hF2
        have HMu7:=Lib.hid hF1;have HG7:=Lib.hid hF2;have HW7:=Lib.hid hW7
        clear hF1 hF2 hW7 HMu1 HMu HG
        go_wp2_with ((with_reducible refine store_cell rfl _ _ _ rfl ⟨g2,k2 * 13+11,none⟩ (.string ⟨#[111,116,104,101,114]⟩) rfl rfl v0 HV0.out HF0.out (by kernel_rfl) rfl rfl ?_);intro w8 hw8;rw [<- HW7.out] at hw8;subst hw8)
        go_round
        case rel=>exact ⟨k2+1,by omega,by go_num,HMu7,HG7⟩
        case measure=>simp [intOf];omega
       ·have HTz:=Lib.hid (HFIN.out wr HG.out)
        clear HMu HG
        go_wp2_with fail
        refine (tg_state1 HTz.out).mono ?_
        rintro e wa ⟨⟨va,Ta,rfl,-,hSa,hba,-,-⟩,hb2⟩
        have HSA:=Lib.hid hSa;have HBA:=Lib.hid hba
        have HTa:=Lib.hid (HTz.out.below hb2)
        clear hSa hba hb2 HTz
        go_wp2_with fail
        refine (tg_state2 HTa.out).mono ?_
        rintro e wb ⟨⟨vb,Tb,rfl,-,hSb,hbb,-,-⟩,hb2⟩
        have HSB:=Lib.hid hSb
        have HSA2:=Lib.hid (HSA.out.later hb2)
        have HTb:=Lib.hid (HTa.out.below hb2)
        have HBB:Hid (Ta.bare=Tb.bare):=HBA.out.trans hbb.symm
        clear hSb hbb hb2 HTa HSA HBA
        go_wp2_with fail
        refine (same15_yes va vb Ta Tb wb HSA2 HSB HBB.out).mono ?_
        rintro e wd ⟨rfl,hb2⟩
        have HBD:=Lib.hid (HTb.out.be.trans (hb2.mono HTb.out.be.size))
        clear hb2
        go_wp2_with fail
        go_ret
        exact ⟨rfl,HBD.out⟩
end gen1Keeps
end
end Go.Proofs.YtlodjgcnffmniaaGreat
