/- Lemmas that the law stands on. No condition. -/
import Derived.Test.YtccccbofcnmdiaaGreatK05
namespace Go.Proofs.YtccccbofcnmdiaaGreat
set_option linter.unusedSimpArgs false
set_option linter.unusedVariables false
set_option maxRecDepth 100000
set_option maxHeartbeats 51200000
section
open Go.RowKit
theorem blankN_none:blankN ⟨#[]⟩ 0 0 0 []=true:=by unfold blankN sameNodeB;rw [sE_none];rfl
theorem blankQ_none:blankQ ⟨#[]⟩ 0 0 0=true:=by unfold blankQ;rw [sE_none];rfl
theorem blankT_none:blankT ⟨#[]⟩ ⟨#[]⟩ 0 0 0 0 [] ⟨#[]⟩ ⟨#[]⟩ 0=true:=by unfold blankT sameTaskB;rw [sE_none];rfl
theorem hid_nil:Hid ((0:Nat)=([]:List Lb).length):=rfl


theorem opRight_any (k:Int)(nn:ByteArray) (a1 b1 c1:Int)(A1:Option Addr) (m1 p1:Nat)(l1:List Lb)(qn:ByteArray) (a2 b2 c2:Int)(tn tq:ByteArray) (tp a3 b3 c3:Int)(A3:Option Addr) (m3 p3:Nat)(l3:List Lb)(ta tg:ByteArray) (ts:Int)(s:ByteArray)(w:World)(hn1:Hid (m1=l1.length))(hp1:m1<=p1)(hq1:p1<=9223372036854775807)(hn3:Hid (m3=l3.length))(hp3:m3<=p3)(hq3:p3<=9223372036854775807)(hr1:Hid (RdL w A1 l1))(hr3:Hid (RdL w A3 l3))(hz1:Hid (Sz l1))(hz3:Hid (Sz l3))(hnn:nn.size<=140737488351232)(hqn:qn.size<=140737488351232)(htn:tn.size<=140737488351232)(htq:tq.size<=140737488351232)(hta:ta.size<=140737488351232)(htg:tg.size<=140737488351232)(hs:s.size<=140737488351232):Calls Tryz.prog 43 #[.agg #[.int .i64 k,.string nn,.int .i64 a1,.int .i64 b1,.int .i64 c1,.slice A1 m1 p1,.string qn,.int .i64 a2,.int .i64 b2,.int .i64 c2,.string tn,.string tq,.int .i64 tp,.int .i64 a3,.int .i64 b3,.int .i64 c3,.slice A3 m3 p3,.string ta,.string tg,.int .i64 ts,.string s]] w fun e w'=>e = .returned (.bool (opB ⟨k,nn,a1,b1,c1,l1,qn,a2,b2,c2,tn,tq,tp,a3,b3,c3,l3,ta,tg,ts,s⟩))/\Below w.heap.size w w':=by
 obtain ⟨ans,hans⟩:∃ r,r=opB ⟨k,nn,a1,b1,c1,l1,qn,a2,b2,c2,tn,tq,tp,a3,b3,c3,l3,ta,tg,ts,s⟩:=⟨_,rfl⟩
 rw [<- hans]
 have HA:=Lib.hid hans
 clear hans
 have kn:=fun W (h:RdL W A1 l1)=>node_any nn a1 b1 c1 A1 m1 p1 l1 W (by omega) hn1 (Lib.hid h) hz1 hp1 hq1
 have kq:=fun W=>queue_any qn a2 b2 c2 W (by omega)
 have kt:=fun W (h:RdL W A3 l3)=>task_any tn tq tp a3 b3 c3 A3 m3 p3 l3 ta tg ts W (by omega) (by omega) hn3 (Lib.hid h) hz3 hp3 hq3 (by omega) (by omega)
 have ks:=fun W=>name_any s W (by omega)
 have KN:=Lib.hid kn
 have KQ:=Lib.hid kq
 have KT:=Lib.hid kt
 have KS:=Lib.hid ks
 clear kn kq kt ks hnn hqn htn htq hta htg hs
 go_enter Tryz.func43,Tryz.ntmps43
 go_wp2_with fail
 refine wp_region_held_drew (S:=fun W=>Below (w.alloc (.cells #[.int .i64 k,.string nn,.int .i64 a1,.int .i64 b1,.int .i64 c1,.slice A1 m1 p1,.string qn,.int .i64 a2,.int .i64 b2,.int .i64 c2,.string tn,.string tq,.int .i64 tp,.int .i64 a3,.int .i64 b3,.int .i64 c3,.slice A3 m3 p3,.string ta,.string tg,.int .i64 ts,.string s] 49)).heap.size (w.alloc (.cells #[.int .i64 k,.string nn,.int .i64 a1,.int .i64 b1,.int .i64 c1,.slice A1 m1 p1,.string qn,.int .i64 a2,.int .i64 b2,.int .i64 c2,.string tn,.string tq,.int .i64 tp,.int .i64 a3,.int .i64 b3,.int .i64 c3,.slice A3 m3 p3,.string ta,.string tg,.int .i64 ts,.string s] 49)) W) (by kernel_rfl) (Below.drew (Below.refl _ _)) (fun hS0=>?_)
 refine wT (i:=0) (v:=.agg #[.int .i64 k,.string nn,.int .i64 a1,.int .i64 b1,.int .i64 c1,.slice A1 m1 p1,.string qn,.int .i64 a2,.int .i64 b2,.int .i64 c2,.string tn,.string tq,.int .i64 tp,.int .i64 a3,.int .i64 b3,.int .i64 c3,.slice A3 m3 p3,.string ta,.string tg,.int .i64 ts,.string s]) rfl (yields_bk rfl 49 _ rfl w.heap.size 0 rfl 49 #[.int .i64 k,.string nn,.int .i64 a1,.int .i64 b1,.int .i64 c1,.slice A1 m1 p1,.string qn,.int .i64 a2,.int .i64 b2,.int .i64 c2,.string tn,.string tq,.int .i64 tp,.int .i64 a3,.int .i64 b3,.int .i64 c3,.slice A3 m3 p3,.string ta,.string tg,.int .i64 ts,.string s] #[.int .i64 k,.string nn,.int .i64 a1,.int .i64 b1,.int .i64 c1,.slice A1 m1 p1,.string qn,.int .i64 a2,.int .i64 b2,.int .i64 c2,.string tn,.string tq,.int .i64 tp,.int .i64 a3,.int .i64 b3,.int .i64 c3,.slice A3 m3 p3,.string ta,.string tg,.int .i64 ts,.string s] _ (fun W hW=>(Bk.fresh _ _ _).later hW) (Part.whole _) Tryz.underlying49 rfl (by kernel_rfl)) hS0 ?_
 try simp only [Act.put,tZ]
 refine wpAnyH_ready (rs:=[1]) (by kernel_rfl) (by simp) ?_
 refine AllReadyH.cons rfl (fun K hK=>?_) AllReadyH.nil
 go_simp
 refine hK.out _ _ bel (fun hS1=>?_)
 clear hK K
 try simp only [Act.put,tZ]
 refine wU (i:=2) (v:=?_) rfl ?_ hS1 ?_
 rotate_left
 ·intro W _;go_simp;try with_reducible rfl
 try simp only [Act.put,tZ]
 refine wpAnyH_ready (rs:=[3]) (by kernel_rfl) (by simp) ?_
 refine AllReadyH.cons rfl (fun K hK=>?_) AllReadyH.nil
 rw [if_pos (by rfl)]
 refine store_bk_op 49 (.tmp 4) (.tmp 5) rfl (w.heap.size+1) 0 #[.int .i64 k,.string nn,.int .i64 a1,.int .i64 b1,.int .i64 c1,.slice A1 m1 p1,.string qn,.int .i64 a2,.int .i64 b2,.int .i64 c2,.string tn,.string tq,.int .i64 tp,.int .i64 a3,.int .i64 b3,.int .i64 c3,.slice A3 m3 p3,.string ta,.string tg,.int .i64 ts,.string s] rfl rfl 49 #[.int .i64 0,.string ⟨#[]⟩,.int .i64 0,.int .i64 0,.int .i64 0,.slice none 0 0,.string ⟨#[]⟩,.int .i64 0,.int .i64 0,.int .i64 0,.string ⟨#[]⟩,.string ⟨#[]⟩,.int .i64 0,.int .i64 0,.int .i64 0,.int .i64 0,.slice none 0 0,.string ⟨#[]⟩,.string ⟨#[]⟩,.int .i64 0,.string ⟨#[]⟩] #[.int .i64 k,.string nn,.int .i64 a1,.int .i64 b1,.int .i64 c1,.slice A1 m1 p1,.string qn,.int .i64 a2,.int .i64 b2,.int .i64 c2,.string tn,.string tq,.int .i64 tp,.int .i64 a3,.int .i64 b3,.int .i64 c3,.slice A3 m3 p3,.string ta,.string tg,.int .i64 ts,.string s] (Bk.freshAt _ _ _ (by simp)) (by kernel_rfl) (by simp) (by kernel_rfl) rfl ?_
 intro w1 hB1 hg1 hs1
 have T0:Hid (Below w.heap.size w w1/\Bk w1 w.heap.size 49 #[.int .i64 k,.string nn,.int .i64 a1,.int .i64 b1,.int .i64 c1,.slice A1 m1 p1,.string qn,.int .i64 a2,.int .i64 b2,.int .i64 c2,.string tn,.string tq,.int .i64 tp,.int .i64 a3,.int .i64 b3,.int .i64 c3,.slice A3 m3 p3,.string ta,.string tg,.int .i64 ts,.string s]/\Bk w1 (w.heap.size+1) 49 #[.int .i64 k,.string nn,.int .i64 a1,.int .i64 b1,.int .i64 c1,.slice A1 m1 p1,.string qn,.int .i64 a2,.int .i64 b2,.int .i64 c2,.string tn,.string tq,.int .i64 tp,.int .i64 a3,.int .i64 b3,.int .i64 c3,.slice A3 m3 p3,.string ta,.string tg,.int .i64 ts,.string s]):=⟨grown_below bel hg1 (by omega),(((Bk.fresh _ _ _).drewB).later ((Below.refl _ _).alloc (Nat.le_refl _) _)).stays hg1 (by simp),hB1⟩
 refine hK.out _ _ (Below.trans hS1 (grown_base hg1 hS1.size (by intro k e;cases e;simp))) (fun hS2=>?_)
 clear hK K hS0 hS1 hS2 hB1 hg1 hs1
 try simp only [Act.put,tZ]
 refine wpAnyH_done (by kernel_rfl) ?_ _
 have f0:w1.cell? ⟨w.heap.size,0,none⟩=some (.int .i64 k):=T0.out.2.1.cellAt 0
 have z0:w.heap.size<w1.heap.size:=T0.out.2.1.here
 by_cases h1:k=1
 case pos=>
  subst h1
  have kb:=fun W=>isBlank_any 1 ⟨#[]⟩ 0 0 0 none 0 0 [] qn a2 b2 c2 tn tq tp a3 b3 c3 A3 m3 p3 l3 ta tg ts s W hid_nil (Nat.le_refl 0) (by decide) hn3 hp3 hq3
  obtain ⟨rb,hrb⟩:∃ r,r=Ov.blank ⟨1,⟨#[]⟩,0,0,0,[],qn,a2,b2,c2,tn,tq,tp,a3,b3,c3,l3,ta,tg,ts,s⟩:=⟨_,rfl⟩
  rw [<- hrb] at kb
  obtain ⟨r,hr⟩:∃ r,r=nodeB nn a1 b1 c1 l1:=⟨_,rfl⟩
  rw [<- hr] at KN
  have hres:opB ⟨1,nn,a1,b1,c1,l1,qn,a2,b2,c2,tn,tq,tp,a3,b3,c3,l3,ta,tg,ts,s⟩=(r && rb):=by
   rw [opB_1 rfl,hr,hrb]
   unfold Ov.blank Ov.zN Ov.zQ Ov.zT Ov.zS Ov.vN
   simp only [blankN_none,Bool.true_and,Bool.and_true,Bool.and_assoc]
  have HR:=Lib.hid hres
  have KB:=Lib.hid kb
  clear kb hres hrb hr
  go_wp2_with (with_reducible refine load_bk rfl 43 _ rfl w.heap.size 1 rfl 49 #[.int .i64 1,.string nn,.int .i64 a1,.int .i64 b1,.int .i64 c1,.slice A1 m1 p1,.string qn,.int .i64 a2,.int .i64 b2,.int .i64 c2,.string tn,.string tq,.int .i64 tp,.int .i64 a3,.int .i64 b3,.int .i64 c3,.slice A3 m3 p3,.string ta,.string tg,.int .i64 ts,.string s] #[.string nn,.int .i64 a1,.int .i64 b1,.int .i64 c1,.slice A1 m1 p1] _ T0.out.2.1 (Part.of rfl) Tryz.underlying43 rfl (by kernel_rfl) ?_)
  refine (KN.out _ (hr1.out.later T0.out.1)).mono ?_
  rintro e w2 ⟨rfl,hb2⟩
  have T2:Hid (Below w.heap.size w w2/\Bk w2 w.heap.size 49 #[.int .i64 1,.string nn,.int .i64 a1,.int .i64 b1,.int .i64 c1,.slice A1 m1 p1,.string qn,.int .i64 a2,.int .i64 b2,.int .i64 c2,.string tn,.string tq,.int .i64 tp,.int .i64 a3,.int .i64 b3,.int .i64 c3,.slice A3 m3 p3,.string ta,.string tg,.int .i64 ts,.string s]/\Bk w2 (w.heap.size+1) 49 #[.int .i64 1,.string nn,.int .i64 a1,.int .i64 b1,.int .i64 c1,.slice A1 m1 p1,.string qn,.int .i64 a2,.int .i64 b2,.int .i64 c2,.string tn,.string tq,.int .i64 tp,.int .i64 a3,.int .i64 b3,.int .i64 c3,.slice A3 m3 p3,.string ta,.string tg,.int .i64 ts,.string s]):=⟨T0.out.1.trans (hb2.mono T0.out.1.size),T0.out.2.1.later hb2,T0.out.2.2.later hb2⟩
  clear hb2 f0 z0
  cases r
  case false=>
   go_wp2_with (first | (with_reducible refine store_bk rfl 43 (.tmp 14) (.tmp 13) rfl (w.heap.size+1) 1 #[.string ⟨#[]⟩,.int .i64 0,.int .i64 0,.int .i64 0,.slice none 0 0] rfl rfl 49 #[.int .i64 1,.string nn,.int .i64 a1,.int .i64 b1,.int .i64 c1,.slice A1 m1 p1,.string qn,.int .i64 a2,.int .i64 b2,.int .i64 c2,.string tn,.string tq,.int .i64 tp,.int .i64 a3,.int .i64 b3,.int .i64 c3,.slice A3 m3 p3,.string ta,.string tg,.int .i64 ts,.string s] #[.int .i64 1,.string ⟨#[]⟩,.int .i64 0,.int .i64 0,.int .i64 0,.slice none 0 0,.string qn,.int .i64 a2,.int .i64 b2,.int .i64 c2,.string tn,.string tq,.int .i64 tp,.int .i64 a3,.int .i64 b3,.int .i64 c3,.slice A3 m3 p3,.string ta,.string tg,.int .i64 ts,.string s] T2.out.2.2 (by kernel_rfl) (by simp) (by kernel_rfl) rfl ?_;intro w3 hB3 hg3 hs3) | (with_reducible refine load_bk rfl 49 _ rfl (w.heap.size+1) 0 rfl 49 #[.int .i64 1,.string ⟨#[]⟩,.int .i64 0,.int .i64 0,.int .i64 0,.slice none 0 0,.string qn,.int .i64 a2,.int .i64 b2,.int .i64 c2,.string tn,.string tq,.int .i64 tp,.int .i64 a3,.int .i64 b3,.int .i64 c3,.slice A3 m3 p3,.string ta,.string tg,.int .i64 ts,.string s] #[.int .i64 1,.string ⟨#[]⟩,.int .i64 0,.int .i64 0,.int .i64 0,.slice none 0 0,.string qn,.int .i64 a2,.int .i64 b2,.int .i64 c2,.string tn,.string tq,.int .i64 tp,.int .i64 a3,.int .i64 b3,.int .i64 c3,.slice A3 m3 p3,.string ta,.string tg,.int .i64 ts,.string s] _ hB3 (Part.whole _) Tryz.underlying49 rfl (by kernel_rfl) ?_))
   go_ret
   exact ⟨ret_bool' (by rw [HA.out,HR.out];rfl),(grown_below T2.out.1 hg3 (by omega))⟩
  case true=>
   go_wp2_with (first | (with_reducible refine store_bk rfl 43 (.tmp 14) (.tmp 13) rfl (w.heap.size+1) 1 #[.string ⟨#[]⟩,.int .i64 0,.int .i64 0,.int .i64 0,.slice none 0 0] rfl rfl 49 #[.int .i64 1,.string nn,.int .i64 a1,.int .i64 b1,.int .i64 c1,.slice A1 m1 p1,.string qn,.int .i64 a2,.int .i64 b2,.int .i64 c2,.string tn,.string tq,.int .i64 tp,.int .i64 a3,.int .i64 b3,.int .i64 c3,.slice A3 m3 p3,.string ta,.string tg,.int .i64 ts,.string s] #[.int .i64 1,.string ⟨#[]⟩,.int .i64 0,.int .i64 0,.int .i64 0,.slice none 0 0,.string qn,.int .i64 a2,.int .i64 b2,.int .i64 c2,.string tn,.string tq,.int .i64 tp,.int .i64 a3,.int .i64 b3,.int .i64 c3,.slice A3 m3 p3,.string ta,.string tg,.int .i64 ts,.string s] T2.out.2.2 (by kernel_rfl) (by simp) (by kernel_rfl) rfl ?_;intro w3 hB3 hg3 hs3) | (with_reducible refine load_bk rfl 49 _ rfl (w.heap.size+1) 0 rfl 49 #[.int .i64 1,.string ⟨#[]⟩,.int .i64 0,.int .i64 0,.int .i64 0,.slice none 0 0,.string qn,.int .i64 a2,.int .i64 b2,.int .i64 c2,.string tn,.string tq,.int .i64 tp,.int .i64 a3,.int .i64 b3,.int .i64 c3,.slice A3 m3 p3,.string ta,.string tg,.int .i64 ts,.string s] #[.int .i64 1,.string ⟨#[]⟩,.int .i64 0,.int .i64 0,.int .i64 0,.slice none 0 0,.string qn,.int .i64 a2,.int .i64 b2,.int .i64 c2,.string tn,.string tq,.int .i64 tp,.int .i64 a3,.int .i64 b3,.int .i64 c3,.slice A3 m3 p3,.string ta,.string tg,.int .i64 ts,.string s] _ hB3 (Part.whole _) Tryz.underlying49 rfl (by kernel_rfl) ?_))
   refine (KB.out _).mono ?_
   rintro e w4 ⟨rfl,hb4⟩
   have hB4:=(grown_below T2.out.1 hg3 (by omega)).trans (hb4.mono (grown_below T2.out.1 hg3 (by omega)).size)
   go_wp2
   go_ret
   exact ⟨ret_bool' (by rw [HA.out,HR.out];rfl),hB4⟩
 case neg=>
  by_cases h3:k=3
  case pos=>
   subst h3
   have kb:=fun W=>isBlank_any 3 nn a1 b1 c1 A1 m1 p1 l1 ⟨#[]⟩ 0 0 0 tn tq tp a3 b3 c3 A3 m3 p3 l3 ta tg ts s W hn1 hp1 hq1 hn3 hp3 hq3
   obtain ⟨rb,hrb⟩:∃ r,r=Ov.blank ⟨3,nn,a1,b1,c1,l1,⟨#[]⟩,0,0,0,tn,tq,tp,a3,b3,c3,l3,ta,tg,ts,s⟩:=⟨_,rfl⟩
   rw [<- hrb] at kb
   obtain ⟨r,hr⟩:∃ r,r=queueB qn a2 b2 c2:=⟨_,rfl⟩
   rw [<- hr] at KQ
   have hres:opB ⟨3,nn,a1,b1,c1,l1,qn,a2,b2,c2,tn,tq,tp,a3,b3,c3,l3,ta,tg,ts,s⟩=(r && rb):=by
    rw [opB_3 rfl,hr,hrb]
    unfold Ov.blank Ov.zN Ov.zQ Ov.zT Ov.zS Ov.vQ
    simp only [blankQ_none,Bool.true_and,Bool.and_true,Bool.and_assoc]
   have HR:=Lib.hid hres
   have KB:=Lib.hid kb
   clear kb hres hrb hr
   go_wp2_with (with_reducible refine load_bk rfl 45 _ rfl w.heap.size 6 rfl 49 #[.int .i64 3,.string nn,.int .i64 a1,.int .i64 b1,.int .i64 c1,.slice A1 m1 p1,.string qn,.int .i64 a2,.int .i64 b2,.int .i64 c2,.string tn,.string tq,.int .i64 tp,.int .i64 a3,.int .i64 b3,.int .i64 c3,.slice A3 m3 p3,.string ta,.string tg,.int .i64 ts,.string s] #[.string qn,.int .i64 a2,.int .i64 b2,.int .i64 c2] _ T0.out.2.1 (Part.of rfl) Tryz.underlying45 rfl (by kernel_rfl) ?_)
   refine (KQ.out _).mono ?_
   rintro e w2 ⟨rfl,hb2⟩
   have T2:Hid (Below w.heap.size w w2/\Bk w2 w.heap.size 49 #[.int .i64 3,.string nn,.int .i64 a1,.int .i64 b1,.int .i64 c1,.slice A1 m1 p1,.string qn,.int .i64 a2,.int .i64 b2,.int .i64 c2,.string tn,.string tq,.int .i64 tp,.int .i64 a3,.int .i64 b3,.int .i64 c3,.slice A3 m3 p3,.string ta,.string tg,.int .i64 ts,.string s]/\Bk w2 (w.heap.size+1) 49 #[.int .i64 3,.string nn,.int .i64 a1,.int .i64 b1,.int .i64 c1,.slice A1 m1 p1,.string qn,.int .i64 a2,.int .i64 b2,.int .i64 c2,.string tn,.string tq,.int .i64 tp,.int .i64 a3,.int .i64 b3,.int .i64 c3,.slice A3 m3 p3,.string ta,.string tg,.int .i64 ts,.string s]):=⟨T0.out.1.trans (hb2.mono T0.out.1.size),T0.out.2.1.later hb2,T0.out.2.2.later hb2⟩
   clear hb2 f0 z0
   cases r
   case false=>
    go_wp2_with (first | (with_reducible refine store_bk rfl 45 (.tmp 21) (.tmp 20) rfl (w.heap.size+1) 6 #[.string ⟨#[]⟩,.int .i64 0,.int .i64 0,.int .i64 0] rfl rfl 49 #[.int .i64 3,.string nn,.int .i64 a1,.int .i64 b1,.int .i64 c1,.slice A1 m1 p1,.string qn,.int .i64 a2,.int .i64 b2,.int .i64 c2,.string tn,.string tq,.int .i64 tp,.int .i64 a3,.int .i64 b3,.int .i64 c3,.slice A3 m3 p3,.string ta,.string tg,.int .i64 ts,.string s] #[.int .i64 3,.string nn,.int .i64 a1,.int .i64 b1,.int .i64 c1,.slice A1 m1 p1,.string ⟨#[]⟩,.int .i64 0,.int .i64 0,.int .i64 0,.string tn,.string tq,.int .i64 tp,.int .i64 a3,.int .i64 b3,.int .i64 c3,.slice A3 m3 p3,.string ta,.string tg,.int .i64 ts,.string s] T2.out.2.2 (by kernel_rfl) (by simp) (by kernel_rfl) rfl ?_;intro w3 hB3 hg3 hs3) | (with_reducible refine load_bk rfl 49 _ rfl (w.heap.size+1) 0 rfl 49 #[.int .i64 3,.string nn,.int .i64 a1,.int .i64 b1,.int .i64 c1,.slice A1 m1 p1,.string ⟨#[]⟩,.int .i64 0,.int .i64 0,.int .i64 0,.string tn,.string tq,.int .i64 tp,.int .i64 a3,.int .i64 b3,.int .i64 c3,.slice A3 m3 p3,.string ta,.string tg,.int .i64 ts,.string s] #[.int .i64 3,.string nn,.int .i64 a1,.int .i64 b1,.int .i64 c1,.slice A1 m1 p1,.string ⟨#[]⟩,.int .i64 0,.int .i64 0,.int .i64 0,.string tn,.string tq,.int .i64 tp,.int .i64 a3,.int .i64 b3,.int .i64 c3,.slice A3 m3 p3,.string ta,.string tg,.int .i64 ts,.string s] _ hB3 (Part.whole _) Tryz.underlying49 rfl (by kernel_rfl) ?_))
    go_ret
    exact ⟨ret_bool' (by rw [HA.out,HR.out];rfl),(grown_below T2.out.1 hg3 (by omega))⟩
   case true=>
    go_wp2_with (first | (with_reducible refine store_bk rfl 45 (.tmp 21) (.tmp 20) rfl (w.heap.size+1) 6 #[.string ⟨#[]⟩,.int .i64 0,.int .i64 0,.int .i64 0] rfl rfl 49 #[.int .i64 3,.string nn,.int .i64 a1,.int .i64 b1,.int .i64 c1,.slice A1 m1 p1,.string qn,.int .i64 a2,.int .i64 b2,.int .i64 c2,.string tn,.string tq,.int .i64 tp,.int .i64 a3,.int .i64 b3,.int .i64 c3,.slice A3 m3 p3,.string ta,.string tg,.int .i64 ts,.string s] #[.int .i64 3,.string nn,.int .i64 a1,.int .i64 b1,.int .i64 c1,.slice A1 m1 p1,.string ⟨#[]⟩,.int .i64 0,.int .i64 0,.int .i64 0,.string tn,.string tq,.int .i64 tp,.int .i64 a3,.int .i64 b3,.int .i64 c3,.slice A3 m3 p3,.string ta,.string tg,.int .i64 ts,.string s] T2.out.2.2 (by kernel_rfl) (by simp) (by kernel_rfl) rfl ?_;intro w3 hB3 hg3 hs3) | (with_reducible refine load_bk rfl 49 _ rfl (w.heap.size+1) 0 rfl 49 #[.int .i64 3,.string nn,.int .i64 a1,.int .i64 b1,.int .i64 c1,.slice A1 m1 p1,.string ⟨#[]⟩,.int .i64 0,.int .i64 0,.int .i64 0,.string tn,.string tq,.int .i64 tp,.int .i64 a3,.int .i64 b3,.int .i64 c3,.slice A3 m3 p3,.string ta,.string tg,.int .i64 ts,.string s] #[.int .i64 3,.string nn,.int .i64 a1,.int .i64 b1,.int .i64 c1,.slice A1 m1 p1,.string ⟨#[]⟩,.int .i64 0,.int .i64 0,.int .i64 0,.string tn,.string tq,.int .i64 tp,.int .i64 a3,.int .i64 b3,.int .i64 c3,.slice A3 m3 p3,.string ta,.string tg,.int .i64 ts,.string s] _ hB3 (Part.whole _) Tryz.underlying49 rfl (by kernel_rfl) ?_))
    refine (KB.out _).mono ?_
    rintro e w4 ⟨rfl,hb4⟩
    have hB4:=(grown_below T2.out.1 hg3 (by omega)).trans (hb4.mono (grown_below T2.out.1 hg3 (by omega)).size)
    go_wp2
    go_ret
    exact ⟨ret_bool' (by rw [HA.out,HR.out];rfl),hB4⟩
  case neg=>
   by_cases h5:k=5
   case pos=>
    subst h5
    have kb:=fun W=>isBlank_any 5 nn a1 b1 c1 A1 m1 p1 l1 qn a2 b2 c2 ⟨#[]⟩ ⟨#[]⟩ 0 0 0 0 none 0 0 [] ⟨#[]⟩ ⟨#[]⟩ 0 s W hn1 hp1 hq1 hid_nil (Nat.le_refl 0) (by decide)
    obtain ⟨rb,hrb⟩:∃ r,r=Ov.blank ⟨5,nn,a1,b1,c1,l1,qn,a2,b2,c2,⟨#[]⟩,⟨#[]⟩,0,0,0,0,[],⟨#[]⟩,⟨#[]⟩,0,s⟩:=⟨_,rfl⟩
    rw [<- hrb] at kb
    obtain ⟨r,hr⟩:∃ r,r=taskB tn tq tp a3 b3 c3 l3 ta tg ts:=⟨_,rfl⟩
    rw [<- hr] at KT
    have hres:opB ⟨5,nn,a1,b1,c1,l1,qn,a2,b2,c2,tn,tq,tp,a3,b3,c3,l3,ta,tg,ts,s⟩=(r && rb):=by
     rw [opB_5 rfl,hr,hrb]
     unfold Ov.blank Ov.zN Ov.zQ Ov.zT Ov.zS Ov.vT
     simp only [blankT_none,Bool.true_and,Bool.and_true,Bool.and_assoc]
    have HR:=Lib.hid hres
    have KB:=Lib.hid kb
    clear kb hres hrb hr
    go_wp2_with (with_reducible refine load_bk rfl 47 _ rfl w.heap.size 10 rfl 49 #[.int .i64 5,.string nn,.int .i64 a1,.int .i64 b1,.int .i64 c1,.slice A1 m1 p1,.string qn,.int .i64 a2,.int .i64 b2,.int .i64 c2,.string tn,.string tq,.int .i64 tp,.int .i64 a3,.int .i64 b3,.int .i64 c3,.slice A3 m3 p3,.string ta,.string tg,.int .i64 ts,.string s] #[.string tn,.string tq,.int .i64 tp,.int .i64 a3,.int .i64 b3,.int .i64 c3,.slice A3 m3 p3,.string ta,.string tg,.int .i64 ts] _ T0.out.2.1 (Part.of rfl) Tryz.underlying47 rfl (by kernel_rfl) ?_)
    refine (KT.out _ (hr3.out.later T0.out.1)).mono ?_
    rintro e w2 ⟨rfl,hb2⟩
    have T2:Hid (Below w.heap.size w w2/\Bk w2 w.heap.size 49 #[.int .i64 5,.string nn,.int .i64 a1,.int .i64 b1,.int .i64 c1,.slice A1 m1 p1,.string qn,.int .i64 a2,.int .i64 b2,.int .i64 c2,.string tn,.string tq,.int .i64 tp,.int .i64 a3,.int .i64 b3,.int .i64 c3,.slice A3 m3 p3,.string ta,.string tg,.int .i64 ts,.string s]/\Bk w2 (w.heap.size+1) 49 #[.int .i64 5,.string nn,.int .i64 a1,.int .i64 b1,.int .i64 c1,.slice A1 m1 p1,.string qn,.int .i64 a2,.int .i64 b2,.int .i64 c2,.string tn,.string tq,.int .i64 tp,.int .i64 a3,.int .i64 b3,.int .i64 c3,.slice A3 m3 p3,.string ta,.string tg,.int .i64 ts,.string s]):=⟨T0.out.1.trans (hb2.mono T0.out.1.size),T0.out.2.1.later hb2,T0.out.2.2.later hb2⟩
    clear hb2 f0 z0
    cases r
    case false=>
     go_wp2_with (first | (with_reducible refine store_bk rfl 47 (.tmp 28) (.tmp 27) rfl (w.heap.size+1) 10 #[.string ⟨#[]⟩,.string ⟨#[]⟩,.int .i64 0,.int .i64 0,.int .i64 0,.int .i64 0,.slice none 0 0,.string ⟨#[]⟩,.string ⟨#[]⟩,.int .i64 0] rfl rfl 49 #[.int .i64 5,.string nn,.int .i64 a1,.int .i64 b1,.int .i64 c1,.slice A1 m1 p1,.string qn,.int .i64 a2,.int .i64 b2,.int .i64 c2,.string tn,.string tq,.int .i64 tp,.int .i64 a3,.int .i64 b3,.int .i64 c3,.slice A3 m3 p3,.string ta,.string tg,.int .i64 ts,.string s] #[.int .i64 5,.string nn,.int .i64 a1,.int .i64 b1,.int .i64 c1,.slice A1 m1 p1,.string qn,.int .i64 a2,.int .i64 b2,.int .i64 c2,.string ⟨#[]⟩,.string ⟨#[]⟩,.int .i64 0,.int .i64 0,.int .i64 0,.int .i64 0,.slice none 0 0,.string ⟨#[]⟩,.string ⟨#[]⟩,.int .i64 0,.string s] T2.out.2.2 (by kernel_rfl) (by simp) (by kernel_rfl) rfl ?_;intro w3 hB3 hg3 hs3) | (with_reducible refine load_bk rfl 49 _ rfl (w.heap.size+1) 0 rfl 49 #[.int .i64 5,.string nn,.int .i64 a1,.int .i64 b1,.int .i64 c1,.slice A1 m1 p1,.string qn,.int .i64 a2,.int .i64 b2,.int .i64 c2,.string ⟨#[]⟩,.string ⟨#[]⟩,.int .i64 0,.int .i64 0,.int .i64 0,.int .i64 0,.slice none 0 0,.string ⟨#[]⟩,.string ⟨#[]⟩,.int .i64 0,.string s] #[.int .i64 5,.string nn,.int .i64 a1,.int .i64 b1,.int .i64 c1,.slice A1 m1 p1,.string qn,.int .i64 a2,.int .i64 b2,.int .i64 c2,.string ⟨#[]⟩,.string ⟨#[]⟩,.int .i64 0,.int .i64 0,.int .i64 0,.int .i64 0,.slice none 0 0,.string ⟨#[]⟩,.string ⟨#[]⟩,.int .i64 0,.string s] _ hB3 (Part.whole _) Tryz.underlying49 rfl (by kernel_rfl) ?_))
     go_ret
     exact ⟨ret_bool' (by rw [HA.out,HR.out];rfl),(grown_below T2.out.1 hg3 (by omega))⟩
    case true=>
     go_wp2_with (first | (with_reducible refine store_bk rfl 47 (.tmp 28) (.tmp 27) rfl (w.heap.size+1) 10 #[.string ⟨#[]⟩,.string ⟨#[]⟩,.int .i64 0,.int .i64 0,.int .i64 0,.int .i64 0,.slice none 0 0,.string ⟨#[]⟩,.string ⟨#[]⟩,.int .i64 0] rfl rfl 49 #[.int .i64 5,.string nn,.int .i64 a1,.int .i64 b1,.int .i64 c1,.slice A1 m1 p1,.string qn,.int .i64 a2,.int .i64 b2,.int .i64 c2,.string tn,.string tq,.int .i64 tp,.int .i64 a3,.int .i64 b3,.int .i64 c3,.slice A3 m3 p3,.string ta,.string tg,.int .i64 ts,.string s] #[.int .i64 5,.string nn,.int .i64 a1,.int .i64 b1,.int .i64 c1,.slice A1 m1 p1,.string qn,.int .i64 a2,.int .i64 b2,.int .i64 c2,.string ⟨#[]⟩,.string ⟨#[]⟩,.int .i64 0,.int .i64 0,.int .i64 0,.int .i64 0,.slice none 0 0,.string ⟨#[]⟩,.string ⟨#[]⟩,.int .i64 0,.string s] T2.out.2.2 (by kernel_rfl) (by simp) (by kernel_rfl) rfl ?_;intro w3 hB3 hg3 hs3) | (with_reducible refine load_bk rfl 49 _ rfl (w.heap.size+1) 0 rfl 49 #[.int .i64 5,.string nn,.int .i64 a1,.int .i64 b1,.int .i64 c1,.slice A1 m1 p1,.string qn,.int .i64 a2,.int .i64 b2,.int .i64 c2,.string ⟨#[]⟩,.string ⟨#[]⟩,.int .i64 0,.int .i64 0,.int .i64 0,.int .i64 0,.slice none 0 0,.string ⟨#[]⟩,.string ⟨#[]⟩,.int .i64 0,.string s] #[.int .i64 5,.string nn,.int .i64 a1,.int .i64 b1,.int .i64 c1,.slice A1 m1 p1,.string qn,.int .i64 a2,.int .i64 b2,.int .i64 c2,.string ⟨#[]⟩,.string ⟨#[]⟩,.int .i64 0,.int .i64 0,.int .i64 0,.int .i64 0,.slice none 0 0,.string ⟨#[]⟩,.string ⟨#[]⟩,.int .i64 0,.string s] _ hB3 (Part.whole _) Tryz.underlying49 rfl (by kernel_rfl) ?_))
     refine (KB.out _).mono ?_
     rintro e w4 ⟨rfl,hb4⟩
     have hB4:=(grown_below T2.out.1 hg3 (by omega)).trans (hb4.mono (grown_below T2.out.1 hg3 (by omega)).size)
     go_wp2
     go_ret
     exact ⟨ret_bool' (by rw [HA.out,HR.out];rfl),hB4⟩
   case neg=>
    by_cases h2:k=2
    case pos=>
     subst h2
     have kb:=fun W=>isBlank_any 2 nn a1 b1 c1 A1 m1 p1 l1 qn a2 b2 c2 tn tq tp a3 b3 c3 A3 m3 p3 l3 ta tg ts ⟨#[]⟩ W hn1 hp1 hq1 hn3 hp3 hq3
     obtain ⟨rb,hrb⟩:∃ r,r=Ov.blank ⟨2,nn,a1,b1,c1,l1,qn,a2,b2,c2,tn,tq,tp,a3,b3,c3,l3,ta,tg,ts,⟨#[]⟩⟩:=⟨_,rfl⟩
     rw [<- hrb] at kb
     obtain ⟨r,hr⟩:∃ r,r=nameB s:=⟨_,rfl⟩
     rw [<- hr] at KS
     have hres:opB ⟨2,nn,a1,b1,c1,l1,qn,a2,b2,c2,tn,tq,tp,a3,b3,c3,l3,ta,tg,ts,s⟩=(r && rb):=by
      rw [opB_nm (by simp),hr,hrb]
      unfold Ov.blank Ov.zN Ov.zQ Ov.zT Ov.zS
      simp only [sE_none,Bool.true_and,Bool.and_true,Bool.and_assoc]
     have HR:=Lib.hid hres
     have KB:=Lib.hid kb
     clear kb hres hrb hr
     have f20:w1.cell? ⟨w.heap.size,20,none⟩=some (.string s):=T0.out.2.1.cellAt 20
     go_wp2_with fail
     refine (KS.out _).mono ?_
     rintro e w2 ⟨rfl,rfl⟩
     cases r
     case false=>
      have g20:w1.cell? ⟨w.heap.size+1,20,none⟩=some (.string s):=T0.out.2.2.cellAt 20
      have fr20:w1.frozen? ⟨w.heap.size+1,20,none⟩=false:=T0.out.2.2.free 20
      have hB3:Bk (w1.setCell ⟨w.heap.size+1,20,none⟩ (.string ⟨#[]⟩)) (w.heap.size+1) 49 #[.int .i64 2,.string nn,.int .i64 a1,.int .i64 b1,.int .i64 c1,.slice A1 m1 p1,.string qn,.int .i64 a2,.int .i64 b2,.int .i64 c2,.string tn,.string tq,.int .i64 tp,.int .i64 a3,.int .i64 b3,.int .i64 c3,.slice A3 m3 p3,.string ta,.string tg,.int .i64 ts,.string ⟨#[]⟩]:=T0.out.2.2.put 20 (.string ⟨#[]⟩)
      go_wp2_with (with_reducible refine load_bk rfl 49 _ rfl (w.heap.size+1) 0 rfl 49 #[.int .i64 2,.string nn,.int .i64 a1,.int .i64 b1,.int .i64 c1,.slice A1 m1 p1,.string qn,.int .i64 a2,.int .i64 b2,.int .i64 c2,.string tn,.string tq,.int .i64 tp,.int .i64 a3,.int .i64 b3,.int .i64 c3,.slice A3 m3 p3,.string ta,.string tg,.int .i64 ts,.string ⟨#[]⟩] #[.int .i64 2,.string nn,.int .i64 a1,.int .i64 b1,.int .i64 c1,.slice A1 m1 p1,.string qn,.int .i64 a2,.int .i64 b2,.int .i64 c2,.string tn,.string tq,.int .i64 tp,.int .i64 a3,.int .i64 b3,.int .i64 c3,.slice A3 m3 p3,.string ta,.string tg,.int .i64 ts,.string ⟨#[]⟩] _ hB3 (Part.whole _) Tryz.underlying49 rfl (by kernel_rfl) ?_)
      go_ret
      exact ⟨ret_bool' (by rw [HA.out,HR.out];rfl),(T0.out.1.setCell (p:=⟨w.heap.size+1,20,none⟩) (by simp) _)⟩
     case true=>
      have g20:w1.cell? ⟨w.heap.size+1,20,none⟩=some (.string s):=T0.out.2.2.cellAt 20
      have fr20:w1.frozen? ⟨w.heap.size+1,20,none⟩=false:=T0.out.2.2.free 20
      have hB3:Bk (w1.setCell ⟨w.heap.size+1,20,none⟩ (.string ⟨#[]⟩)) (w.heap.size+1) 49 #[.int .i64 2,.string nn,.int .i64 a1,.int .i64 b1,.int .i64 c1,.slice A1 m1 p1,.string qn,.int .i64 a2,.int .i64 b2,.int .i64 c2,.string tn,.string tq,.int .i64 tp,.int .i64 a3,.int .i64 b3,.int .i64 c3,.slice A3 m3 p3,.string ta,.string tg,.int .i64 ts,.string ⟨#[]⟩]:=T0.out.2.2.put 20 (.string ⟨#[]⟩)
      go_wp2_with (with_reducible refine load_bk rfl 49 _ rfl (w.heap.size+1) 0 rfl 49 #[.int .i64 2,.string nn,.int .i64 a1,.int .i64 b1,.int .i64 c1,.slice A1 m1 p1,.string qn,.int .i64 a2,.int .i64 b2,.int .i64 c2,.string tn,.string tq,.int .i64 tp,.int .i64 a3,.int .i64 b3,.int .i64 c3,.slice A3 m3 p3,.string ta,.string tg,.int .i64 ts,.string ⟨#[]⟩] #[.int .i64 2,.string nn,.int .i64 a1,.int .i64 b1,.int .i64 c1,.slice A1 m1 p1,.string qn,.int .i64 a2,.int .i64 b2,.int .i64 c2,.string tn,.string tq,.int .i64 tp,.int .i64 a3,.int .i64 b3,.int .i64 c3,.slice A3 m3 p3,.string ta,.string tg,.int .i64 ts,.string ⟨#[]⟩] _ hB3 (Part.whole _) Tryz.underlying49 rfl (by kernel_rfl) ?_)
      refine (KB.out _).mono ?_
      rintro e w4 ⟨rfl,hb4⟩
      have hB4:=(T0.out.1.setCell (p:=⟨w.heap.size+1,20,none⟩) (by simp) _).trans (hb4.mono (T0.out.1.setCell (p:=⟨w.heap.size+1,20,none⟩) (by simp) _).size)
      go_wp2
      go_ret
      exact ⟨ret_bool' (by rw [HA.out,HR.out];rfl),hB4⟩
    case neg=>
     by_cases h4:k=4
     case pos=>
      subst h4
      have kb:=fun W=>isBlank_any 4 nn a1 b1 c1 A1 m1 p1 l1 qn a2 b2 c2 tn tq tp a3 b3 c3 A3 m3 p3 l3 ta tg ts ⟨#[]⟩ W hn1 hp1 hq1 hn3 hp3 hq3
      obtain ⟨rb,hrb⟩:∃ r,r=Ov.blank ⟨4,nn,a1,b1,c1,l1,qn,a2,b2,c2,tn,tq,tp,a3,b3,c3,l3,ta,tg,ts,⟨#[]⟩⟩:=⟨_,rfl⟩
      rw [<- hrb] at kb
      obtain ⟨r,hr⟩:∃ r,r=nameB s:=⟨_,rfl⟩
      rw [<- hr] at KS
      have hres:opB ⟨4,nn,a1,b1,c1,l1,qn,a2,b2,c2,tn,tq,tp,a3,b3,c3,l3,ta,tg,ts,s⟩=(r && rb):=by
       rw [opB_nm (by simp),hr,hrb]
       unfold Ov.blank Ov.zN Ov.zQ Ov.zT Ov.zS
       simp only [sE_none,Bool.true_and,Bool.and_true,Bool.and_assoc]
      have HR:=Lib.hid hres
      have KB:=Lib.hid kb
      clear kb hres hrb hr
      have f20:w1.cell? ⟨w.heap.size,20,none⟩=some (.string s):=T0.out.2.1.cellAt 20
      go_wp2_with fail
      refine (KS.out _).mono ?_
      rintro e w2 ⟨rfl,rfl⟩
      cases r
      case false=>
       have g20:w1.cell? ⟨w.heap.size+1,20,none⟩=some (.string s):=T0.out.2.2.cellAt 20
       have fr20:w1.frozen? ⟨w.heap.size+1,20,none⟩=false:=T0.out.2.2.free 20
       have hB3:Bk (w1.setCell ⟨w.heap.size+1,20,none⟩ (.string ⟨#[]⟩)) (w.heap.size+1) 49 #[.int .i64 4,.string nn,.int .i64 a1,.int .i64 b1,.int .i64 c1,.slice A1 m1 p1,.string qn,.int .i64 a2,.int .i64 b2,.int .i64 c2,.string tn,.string tq,.int .i64 tp,.int .i64 a3,.int .i64 b3,.int .i64 c3,.slice A3 m3 p3,.string ta,.string tg,.int .i64 ts,.string ⟨#[]⟩]:=T0.out.2.2.put 20 (.string ⟨#[]⟩)
       go_wp2_with (with_reducible refine load_bk rfl 49 _ rfl (w.heap.size+1) 0 rfl 49 #[.int .i64 4,.string nn,.int .i64 a1,.int .i64 b1,.int .i64 c1,.slice A1 m1 p1,.string qn,.int .i64 a2,.int .i64 b2,.int .i64 c2,.string tn,.string tq,.int .i64 tp,.int .i64 a3,.int .i64 b3,.int .i64 c3,.slice A3 m3 p3,.string ta,.string tg,.int .i64 ts,.string ⟨#[]⟩] #[.int .i64 4,.string nn,.int .i64 a1,.int .i64 b1,.int .i64 c1,.slice A1 m1 p1,.string qn,.int .i64 a2,.int .i64 b2,.int .i64 c2,.string tn,.string tq,.int .i64 tp,.int .i64 a3,.int .i64 b3,.int .i64 c3,.slice A3 m3 p3,.string ta,.string tg,.int .i64 ts,.string ⟨#[]⟩] _ hB3 (Part.whole _) Tryz.underlying49 rfl (by kernel_rfl) ?_)
       go_ret
       exact ⟨ret_bool' (by rw [HA.out,HR.out];rfl),(T0.out.1.setCell (p:=⟨w.heap.size+1,20,none⟩) (by simp) _)⟩
      case true=>
       have g20:w1.cell? ⟨w.heap.size+1,20,none⟩=some (.string s):=T0.out.2.2.cellAt 20
       have fr20:w1.frozen? ⟨w.heap.size+1,20,none⟩=false:=T0.out.2.2.free 20
       have hB3:Bk (w1.setCell ⟨w.heap.size+1,20,none⟩ (.string ⟨#[]⟩)) (w.heap.size+1) 49 #[.int .i64 4,.string nn,.int .i64 a1,.int .i64 b1,.int .i64 c1,.slice A1 m1 p1,.string qn,.int .i64 a2,.int .i64 b2,.int .i64 c2,.string tn,.string tq,.int .i64 tp,.int .i64 a3,.int .i64 b3,.int .i64 c3,.slice A3 m3 p3,.string ta,.string tg,.int .i64 ts,.string ⟨#[]⟩]:=T0.out.2.2.put 20 (.string ⟨#[]⟩)
       go_wp2_with (with_reducible refine load_bk rfl 49 _ rfl (w.heap.size+1) 0 rfl 49 #[.int .i64 4,.string nn,.int .i64 a1,.int .i64 b1,.int .i64 c1,.slice A1 m1 p1,.string qn,.int .i64 a2,.int .i64 b2,.int .i64 c2,.string tn,.string tq,.int .i64 tp,.int .i64 a3,.int .i64 b3,.int .i64 c3,.slice A3 m3 p3,.string ta,.string tg,.int .i64 ts,.string ⟨#[]⟩] #[.int .i64 4,.string nn,.int .i64 a1,.int .i64 b1,.int .i64 c1,.slice A1 m1 p1,.string qn,.int .i64 a2,.int .i64 b2,.int .i64 c2,.string tn,.string tq,.int .i64 tp,.int .i64 a3,.int .i64 b3,.int .i64 c3,.slice A3 m3 p3,.string ta,.string tg,.int .i64 ts,.string ⟨#[]⟩] _ hB3 (Part.whole _) Tryz.underlying49 rfl (by kernel_rfl) ?_)
       refine (KB.out _).mono ?_
       rintro e w4 ⟨rfl,hb4⟩
       have hB4:=(T0.out.1.setCell (p:=⟨w.heap.size+1,20,none⟩) (by simp) _).trans (hb4.mono (T0.out.1.setCell (p:=⟨w.heap.size+1,20,none⟩) (by simp) _).size)
       go_wp2
       go_ret
       exact ⟨ret_bool' (by rw [HA.out,HR.out];rfl),hB4⟩
     case neg=>
      by_cases h6:k=6
      case pos=>
       subst h6
       have kb:=fun W=>isBlank_any 6 nn a1 b1 c1 A1 m1 p1 l1 qn a2 b2 c2 tn tq tp a3 b3 c3 A3 m3 p3 l3 ta tg ts ⟨#[]⟩ W hn1 hp1 hq1 hn3 hp3 hq3
       obtain ⟨rb,hrb⟩:∃ r,r=Ov.blank ⟨6,nn,a1,b1,c1,l1,qn,a2,b2,c2,tn,tq,tp,a3,b3,c3,l3,ta,tg,ts,⟨#[]⟩⟩:=⟨_,rfl⟩
       rw [<- hrb] at kb
       obtain ⟨r,hr⟩:∃ r,r=nameB s:=⟨_,rfl⟩
       rw [<- hr] at KS
       have hres:opB ⟨6,nn,a1,b1,c1,l1,qn,a2,b2,c2,tn,tq,tp,a3,b3,c3,l3,ta,tg,ts,s⟩=(r && rb):=by
        rw [opB_nm (by simp),hr,hrb]
        unfold Ov.blank Ov.zN Ov.zQ Ov.zT Ov.zS
        simp only [sE_none,Bool.true_and,Bool.and_true,Bool.and_assoc]
       have HR:=Lib.hid hres
       have KB:=Lib.hid kb
       clear kb hres hrb hr
       have f20:w1.cell? ⟨w.heap.size,20,none⟩=some (.string s):=T0.out.2.1.cellAt 20
       go_wp2_with fail
       refine (KS.out _).mono ?_
       rintro e w2 ⟨rfl,rfl⟩
       cases r
       case false=>
        have g20:w1.cell? ⟨w.heap.size+1,20,none⟩=some (.string s):=T0.out.2.2.cellAt 20
        have fr20:w1.frozen? ⟨w.heap.size+1,20,none⟩=false:=T0.out.2.2.free 20
        have hB3:Bk (w1.setCell ⟨w.heap.size+1,20,none⟩ (.string ⟨#[]⟩)) (w.heap.size+1) 49 #[.int .i64 6,.string nn,.int .i64 a1,.int .i64 b1,.int .i64 c1,.slice A1 m1 p1,.string qn,.int .i64 a2,.int .i64 b2,.int .i64 c2,.string tn,.string tq,.int .i64 tp,.int .i64 a3,.int .i64 b3,.int .i64 c3,.slice A3 m3 p3,.string ta,.string tg,.int .i64 ts,.string ⟨#[]⟩]:=T0.out.2.2.put 20 (.string ⟨#[]⟩)
        go_wp2_with (with_reducible refine load_bk rfl 49 _ rfl (w.heap.size+1) 0 rfl 49 #[.int .i64 6,.string nn,.int .i64 a1,.int .i64 b1,.int .i64 c1,.slice A1 m1 p1,.string qn,.int .i64 a2,.int .i64 b2,.int .i64 c2,.string tn,.string tq,.int .i64 tp,.int .i64 a3,.int .i64 b3,.int .i64 c3,.slice A3 m3 p3,.string ta,.string tg,.int .i64 ts,.string ⟨#[]⟩] #[.int .i64 6,.string nn,.int .i64 a1,.int .i64 b1,.int .i64 c1,.slice A1 m1 p1,.string qn,.int .i64 a2,.int .i64 b2,.int .i64 c2,.string tn,.string tq,.int .i64 tp,.int .i64 a3,.int .i64 b3,.int .i64 c3,.slice A3 m3 p3,.string ta,.string tg,.int .i64 ts,.string ⟨#[]⟩] _ hB3 (Part.whole _) Tryz.underlying49 rfl (by kernel_rfl) ?_)
        go_ret
        exact ⟨ret_bool' (by rw [HA.out,HR.out];rfl),(T0.out.1.setCell (p:=⟨w.heap.size+1,20,none⟩) (by simp) _)⟩
       case true=>
        have g20:w1.cell? ⟨w.heap.size+1,20,none⟩=some (.string s):=T0.out.2.2.cellAt 20
        have fr20:w1.frozen? ⟨w.heap.size+1,20,none⟩=false:=T0.out.2.2.free 20
        have hB3:Bk (w1.setCell ⟨w.heap.size+1,20,none⟩ (.string ⟨#[]⟩)) (w.heap.size+1) 49 #[.int .i64 6,.string nn,.int .i64 a1,.int .i64 b1,.int .i64 c1,.slice A1 m1 p1,.string qn,.int .i64 a2,.int .i64 b2,.int .i64 c2,.string tn,.string tq,.int .i64 tp,.int .i64 a3,.int .i64 b3,.int .i64 c3,.slice A3 m3 p3,.string ta,.string tg,.int .i64 ts,.string ⟨#[]⟩]:=T0.out.2.2.put 20 (.string ⟨#[]⟩)
        go_wp2_with (with_reducible refine load_bk rfl 49 _ rfl (w.heap.size+1) 0 rfl 49 #[.int .i64 6,.string nn,.int .i64 a1,.int .i64 b1,.int .i64 c1,.slice A1 m1 p1,.string qn,.int .i64 a2,.int .i64 b2,.int .i64 c2,.string tn,.string tq,.int .i64 tp,.int .i64 a3,.int .i64 b3,.int .i64 c3,.slice A3 m3 p3,.string ta,.string tg,.int .i64 ts,.string ⟨#[]⟩] #[.int .i64 6,.string nn,.int .i64 a1,.int .i64 b1,.int .i64 c1,.slice A1 m1 p1,.string qn,.int .i64 a2,.int .i64 b2,.int .i64 c2,.string tn,.string tq,.int .i64 tp,.int .i64 a3,.int .i64 b3,.int .i64 c3,.slice A3 m3 p3,.string ta,.string tg,.int .i64 ts,.string ⟨#[]⟩] _ hB3 (Part.whole _) Tryz.underlying49 rfl (by kernel_rfl) ?_)
        refine (KB.out _).mono ?_
        rintro e w4 ⟨rfl,hb4⟩
        have hB4:=(T0.out.1.setCell (p:=⟨w.heap.size+1,20,none⟩) (by simp) _).trans (hb4.mono (T0.out.1.setCell (p:=⟨w.heap.size+1,20,none⟩) (by simp) _).size)
        go_wp2
        go_ret
        exact ⟨ret_bool' (by rw [HA.out,HR.out];rfl),hB4⟩
      case neg=>
       by_cases h7:k=7
       case pos=>
        subst h7
        have kb:=fun W=>isBlank_any 7 nn a1 b1 c1 A1 m1 p1 l1 qn a2 b2 c2 tn tq tp a3 b3 c3 A3 m3 p3 l3 ta tg ts ⟨#[]⟩ W hn1 hp1 hq1 hn3 hp3 hq3
        obtain ⟨rb,hrb⟩:∃ r,r=Ov.blank ⟨7,nn,a1,b1,c1,l1,qn,a2,b2,c2,tn,tq,tp,a3,b3,c3,l3,ta,tg,ts,⟨#[]⟩⟩:=⟨_,rfl⟩
        rw [<- hrb] at kb
        obtain ⟨r,hr⟩:∃ r,r=nameB s:=⟨_,rfl⟩
        rw [<- hr] at KS
        have hres:opB ⟨7,nn,a1,b1,c1,l1,qn,a2,b2,c2,tn,tq,tp,a3,b3,c3,l3,ta,tg,ts,s⟩=(r && rb):=by
         rw [opB_nm (by simp),hr,hrb]
         unfold Ov.blank Ov.zN Ov.zQ Ov.zT Ov.zS
         simp only [sE_none,Bool.true_and,Bool.and_true,Bool.and_assoc]
        have HR:=Lib.hid hres
        have KB:=Lib.hid kb
        clear kb hres hrb hr
        have f20:w1.cell? ⟨w.heap.size,20,none⟩=some (.string s):=T0.out.2.1.cellAt 20
        go_wp2_with fail
        refine (KS.out _).mono ?_
        rintro e w2 ⟨rfl,rfl⟩
        cases r
        case false=>
         have g20:w1.cell? ⟨w.heap.size+1,20,none⟩=some (.string s):=T0.out.2.2.cellAt 20
         have fr20:w1.frozen? ⟨w.heap.size+1,20,none⟩=false:=T0.out.2.2.free 20
         have hB3:Bk (w1.setCell ⟨w.heap.size+1,20,none⟩ (.string ⟨#[]⟩)) (w.heap.size+1) 49 #[.int .i64 7,.string nn,.int .i64 a1,.int .i64 b1,.int .i64 c1,.slice A1 m1 p1,.string qn,.int .i64 a2,.int .i64 b2,.int .i64 c2,.string tn,.string tq,.int .i64 tp,.int .i64 a3,.int .i64 b3,.int .i64 c3,.slice A3 m3 p3,.string ta,.string tg,.int .i64 ts,.string ⟨#[]⟩]:=T0.out.2.2.put 20 (.string ⟨#[]⟩)
         go_wp2_with (with_reducible refine load_bk rfl 49 _ rfl (w.heap.size+1) 0 rfl 49 #[.int .i64 7,.string nn,.int .i64 a1,.int .i64 b1,.int .i64 c1,.slice A1 m1 p1,.string qn,.int .i64 a2,.int .i64 b2,.int .i64 c2,.string tn,.string tq,.int .i64 tp,.int .i64 a3,.int .i64 b3,.int .i64 c3,.slice A3 m3 p3,.string ta,.string tg,.int .i64 ts,.string ⟨#[]⟩] #[.int .i64 7,.string nn,.int .i64 a1,.int .i64 b1,.int .i64 c1,.slice A1 m1 p1,.string qn,.int .i64 a2,.int .i64 b2,.int .i64 c2,.string tn,.string tq,.int .i64 tp,.int .i64 a3,.int .i64 b3,.int .i64 c3,.slice A3 m3 p3,.string ta,.string tg,.int .i64 ts,.string ⟨#[]⟩] _ hB3 (Part.whole _) Tryz.underlying49 rfl (by kernel_rfl) ?_)
         go_ret
         exact ⟨ret_bool' (by rw [HA.out,HR.out];rfl),(T0.out.1.setCell (p:=⟨w.heap.size+1,20,none⟩) (by simp) _)⟩
        case true=>
         have g20:w1.cell? ⟨w.heap.size+1,20,none⟩=some (.string s):=T0.out.2.2.cellAt 20
         have fr20:w1.frozen? ⟨w.heap.size+1,20,none⟩=false:=T0.out.2.2.free 20
         have hB3:Bk (w1.setCell ⟨w.heap.size+1,20,none⟩ (.string ⟨#[]⟩)) (w.heap.size+1) 49 #[.int .i64 7,.string nn,.int .i64 a1,.int .i64 b1,.int .i64 c1,.slice A1 m1 p1,.string qn,.int .i64 a2,.int .i64 b2,.int .i64 c2,.string tn,.string tq,.int .i64 tp,.int .i64 a3,.int .i64 b3,.int .i64 c3,.slice A3 m3 p3,.string ta,.string tg,.int .i64 ts,.string ⟨#[]⟩]:=T0.out.2.2.put 20 (.string ⟨#[]⟩)
         go_wp2_with (with_reducible refine load_bk rfl 49 _ rfl (w.heap.size+1) 0 rfl 49 #[.int .i64 7,.string nn,.int .i64 a1,.int .i64 b1,.int .i64 c1,.slice A1 m1 p1,.string qn,.int .i64 a2,.int .i64 b2,.int .i64 c2,.string tn,.string tq,.int .i64 tp,.int .i64 a3,.int .i64 b3,.int .i64 c3,.slice A3 m3 p3,.string ta,.string tg,.int .i64 ts,.string ⟨#[]⟩] #[.int .i64 7,.string nn,.int .i64 a1,.int .i64 b1,.int .i64 c1,.slice A1 m1 p1,.string qn,.int .i64 a2,.int .i64 b2,.int .i64 c2,.string tn,.string tq,.int .i64 tp,.int .i64 a3,.int .i64 b3,.int .i64 c3,.slice A3 m3 p3,.string ta,.string tg,.int .i64 ts,.string ⟨#[]⟩] _ hB3 (Part.whole _) Tryz.underlying49 rfl (by kernel_rfl) ?_)
         refine (KB.out _).mono ?_
         rintro e w4 ⟨rfl,hb4⟩
         have hB4:=(T0.out.1.setCell (p:=⟨w.heap.size+1,20,none⟩) (by simp) _).trans (hb4.mono (T0.out.1.setCell (p:=⟨w.heap.size+1,20,none⟩) (by simp) _).size)
         go_wp2
         go_ret
         exact ⟨ret_bool' (by rw [HA.out,HR.out];rfl),hB4⟩
       case neg=>
        by_cases h8:k=8
        case pos=>
         subst h8
         have kb:=fun W=>isBlank_any 8 nn a1 b1 c1 A1 m1 p1 l1 qn a2 b2 c2 tn tq tp a3 b3 c3 A3 m3 p3 l3 ta tg ts ⟨#[]⟩ W hn1 hp1 hq1 hn3 hp3 hq3
         obtain ⟨rb,hrb⟩:∃ r,r=Ov.blank ⟨8,nn,a1,b1,c1,l1,qn,a2,b2,c2,tn,tq,tp,a3,b3,c3,l3,ta,tg,ts,⟨#[]⟩⟩:=⟨_,rfl⟩
         rw [<- hrb] at kb
         obtain ⟨r,hr⟩:∃ r,r=nameB s:=⟨_,rfl⟩
         rw [<- hr] at KS
         have hres:opB ⟨8,nn,a1,b1,c1,l1,qn,a2,b2,c2,tn,tq,tp,a3,b3,c3,l3,ta,tg,ts,s⟩=(r && rb):=by
          rw [opB_nm (by simp),hr,hrb]
          unfold Ov.blank Ov.zN Ov.zQ Ov.zT Ov.zS
          simp only [sE_none,Bool.true_and,Bool.and_true,Bool.and_assoc]
         have HR:=Lib.hid hres
         have KB:=Lib.hid kb
         clear kb hres hrb hr
         have f20:w1.cell? ⟨w.heap.size,20,none⟩=some (.string s):=T0.out.2.1.cellAt 20
         go_wp2_with fail
         refine (KS.out _).mono ?_
         rintro e w2 ⟨rfl,rfl⟩
         cases r
         case false=>
          have g20:w1.cell? ⟨w.heap.size+1,20,none⟩=some (.string s):=T0.out.2.2.cellAt 20
          have fr20:w1.frozen? ⟨w.heap.size+1,20,none⟩=false:=T0.out.2.2.free 20
          have hB3:Bk (w1.setCell ⟨w.heap.size+1,20,none⟩ (.string ⟨#[]⟩)) (w.heap.size+1) 49 #[.int .i64 8,.string nn,.int .i64 a1,.int .i64 b1,.int .i64 c1,.slice A1 m1 p1,.string qn,.int .i64 a2,.int .i64 b2,.int .i64 c2,.string tn,.string tq,.int .i64 tp,.int .i64 a3,.int .i64 b3,.int .i64 c3,.slice A3 m3 p3,.string ta,.string tg,.int .i64 ts,.string ⟨#[]⟩]:=T0.out.2.2.put 20 (.string ⟨#[]⟩)
          go_wp2_with (with_reducible refine load_bk rfl 49 _ rfl (w.heap.size+1) 0 rfl 49 #[.int .i64 8,.string nn,.int .i64 a1,.int .i64 b1,.int .i64 c1,.slice A1 m1 p1,.string qn,.int .i64 a2,.int .i64 b2,.int .i64 c2,.string tn,.string tq,.int .i64 tp,.int .i64 a3,.int .i64 b3,.int .i64 c3,.slice A3 m3 p3,.string ta,.string tg,.int .i64 ts,.string ⟨#[]⟩] #[.int .i64 8,.string nn,.int .i64 a1,.int .i64 b1,.int .i64 c1,.slice A1 m1 p1,.string qn,.int .i64 a2,.int .i64 b2,.int .i64 c2,.string tn,.string tq,.int .i64 tp,.int .i64 a3,.int .i64 b3,.int .i64 c3,.slice A3 m3 p3,.string ta,.string tg,.int .i64 ts,.string ⟨#[]⟩] _ hB3 (Part.whole _) Tryz.underlying49 rfl (by kernel_rfl) ?_)
          go_ret
          exact ⟨ret_bool' (by rw [HA.out,HR.out];rfl),(T0.out.1.setCell (p:=⟨w.heap.size+1,20,none⟩) (by simp) _)⟩
         case true=>
          have g20:w1.cell? ⟨w.heap.size+1,20,none⟩=some (.string s):=T0.out.2.2.cellAt 20
          have fr20:w1.frozen? ⟨w.heap.size+1,20,none⟩=false:=T0.out.2.2.free 20
          have hB3:Bk (w1.setCell ⟨w.heap.size+1,20,none⟩ (.string ⟨#[]⟩)) (w.heap.size+1) 49 #[.int .i64 8,.string nn,.int .i64 a1,.int .i64 b1,.int .i64 c1,.slice A1 m1 p1,.string qn,.int .i64 a2,.int .i64 b2,.int .i64 c2,.string tn,.string tq,.int .i64 tp,.int .i64 a3,.int .i64 b3,.int .i64 c3,.slice A3 m3 p3,.string ta,.string tg,.int .i64 ts,.string ⟨#[]⟩]:=T0.out.2.2.put 20 (.string ⟨#[]⟩)
          go_wp2_with (with_reducible refine load_bk rfl 49 _ rfl (w.heap.size+1) 0 rfl 49 #[.int .i64 8,.string nn,.int .i64 a1,.int .i64 b1,.int .i64 c1,.slice A1 m1 p1,.string qn,.int .i64 a2,.int .i64 b2,.int .i64 c2,.string tn,.string tq,.int .i64 tp,.int .i64 a3,.int .i64 b3,.int .i64 c3,.slice A3 m3 p3,.string ta,.string tg,.int .i64 ts,.string ⟨#[]⟩] #[.int .i64 8,.string nn,.int .i64 a1,.int .i64 b1,.int .i64 c1,.slice A1 m1 p1,.string qn,.int .i64 a2,.int .i64 b2,.int .i64 c2,.string tn,.string tq,.int .i64 tp,.int .i64 a3,.int .i64 b3,.int .i64 c3,.slice A3 m3 p3,.string ta,.string tg,.int .i64 ts,.string ⟨#[]⟩] _ hB3 (Part.whole _) Tryz.underlying49 rfl (by kernel_rfl) ?_)
          refine (KB.out _).mono ?_
          rintro e w4 ⟨rfl,hb4⟩
          have hB4:=(T0.out.1.setCell (p:=⟨w.heap.size+1,20,none⟩) (by simp) _).trans (hb4.mono (T0.out.1.setCell (p:=⟨w.heap.size+1,20,none⟩) (by simp) _).size)
          go_wp2
          go_ret
          exact ⟨ret_bool' (by rw [HA.out,HR.out];rfl),hB4⟩
        case neg=>
         by_cases h9:k=9
         case pos=>
          subst h9
          have kb:=fun W=>isBlank_any 9 nn a1 b1 c1 A1 m1 p1 l1 qn a2 b2 c2 tn tq tp a3 b3 c3 A3 m3 p3 l3 ta tg ts s W hn1 hp1 hq1 hn3 hp3 hq3
          obtain ⟨rb,hrb⟩:∃ r,r=Ov.blank ⟨9,nn,a1,b1,c1,l1,qn,a2,b2,c2,tn,tq,tp,a3,b3,c3,l3,ta,tg,ts,s⟩:=⟨_,rfl⟩
          rw [<- hrb] at kb
          have hres:opB ⟨9,nn,a1,b1,c1,l1,qn,a2,b2,c2,tn,tq,tp,a3,b3,c3,l3,ta,tg,ts,s⟩=rb:=by rw [opB_9 rfl,hrb];rfl
          have HR:=Lib.hid hres
          have KB:=Lib.hid kb
          clear kb hres hrb
          go_wp2_with (with_reducible refine load_bk rfl 49 _ rfl (w.heap.size+1) 0 rfl 49 #[.int .i64 9,.string nn,.int .i64 a1,.int .i64 b1,.int .i64 c1,.slice A1 m1 p1,.string qn,.int .i64 a2,.int .i64 b2,.int .i64 c2,.string tn,.string tq,.int .i64 tp,.int .i64 a3,.int .i64 b3,.int .i64 c3,.slice A3 m3 p3,.string ta,.string tg,.int .i64 ts,.string s] #[.int .i64 9,.string nn,.int .i64 a1,.int .i64 b1,.int .i64 c1,.slice A1 m1 p1,.string qn,.int .i64 a2,.int .i64 b2,.int .i64 c2,.string tn,.string tq,.int .i64 tp,.int .i64 a3,.int .i64 b3,.int .i64 c3,.slice A3 m3 p3,.string ta,.string tg,.int .i64 ts,.string s] _ T0.out.2.2 (Part.whole _) Tryz.underlying49 rfl (by kernel_rfl) ?_)
          refine (KB.out _).mono ?_
          rintro e w4 ⟨rfl,hb4⟩
          go_wp2
          go_ret
          exact ⟨ret_bool' (by rw [HA.out,HR.out]),T0.out.1.trans (hb4.mono T0.out.1.size)⟩
         case neg=>
          have hres:opB ⟨k,nn,a1,b1,c1,l1,qn,a2,b2,c2,tn,tq,tp,a3,b3,c3,l3,ta,tg,ts,s⟩=false:=opB_no (x:=⟨k,nn,a1,b1,c1,l1,qn,a2,b2,c2,tn,tq,tp,a3,b3,c3,l3,ta,tg,ts,s⟩) (by simp only [];omega)
          have HR:=Lib.hid hres
          have e1:(k == 1)=false:=by simpa using h1
          have e3:(k == 3)=false:=by simpa using h3
          have e5:(k == 5)=false:=by simpa using h5
          have e2:(k == 2)=false:=by simpa using h2
          have e4:(k == 4)=false:=by simpa using h4
          have e6:(k == 6)=false:=by simpa using h6
          have e7:(k == 7)=false:=by simpa using h7
          have e8:(k == 8)=false:=by simpa using h8
          have e9:(k == 9)=false:=by simpa using h9
          clear hres h1 h3 h5 h2 h4 h6 h7 h8 h9
          go_wp2
          go_ret
          exact ⟨ret_bool' (by rw [HA.out,HR.out]),T0.out.1⟩
end
section
open Go.RowKit
structure Oz where
 v:Ov
 A1:Option Addr
 m1:Nat
 p1:Nat
 A3:Option Addr
 m3:Nat
 p3:Nat
abbrev Oz.arr (x:Oz):Array Value:=#[.int .i64 x.v.k,.string x.v.nn,.int .i64 x.v.a1,.int .i64 x.v.b1,.int .i64 x.v.c1,.slice x.A1 x.m1 x.p1,.string x.v.qn,.int .i64 x.v.a2,.int .i64 x.v.b2,.int .i64 x.v.c2,.string x.v.tn,.string x.v.tq,.int .i64 x.v.tp,.int .i64 x.v.a3,.int .i64 x.v.b3,.int .i64 x.v.c3,.slice x.A3 x.m3 x.p3,.string x.v.ta,.string x.v.tg,.int .i64 x.v.ts,.string x.v.s]
def Oz.que (x:Oz):Qx:=(x.v.qn,x.v.a2,x.v.b2,x.v.c2)
structure OzOk (w:World)(x:Oz):Prop where
 l1:LbOk w x.A1 x.m1 x.p1 x.v.l1
 l3:LbOk w x.A3 x.m3 x.p3 x.v.l3
 nn:x.v.nn.size<=140737488351232
 qn:x.v.qn.size<=140737488351232
 tn:x.v.tn.size<=140737488351232
 tq:x.v.tq.size<=140737488351232
 ta:x.v.ta.size<=140737488351232
 tg:x.v.tg.size<=140737488351232
 s:x.v.s.size<=140737488351232
theorem OzOk.later {w w':World}{x:Oz}(h:OzOk w x)(hb:Below w.heap.size w w'):OzOk w' x:=⟨h.l1.later hb,h.l3.later hb,h.nn,h.qn,h.tn,h.tq,h.ta,h.tg,h.s⟩
theorem ozRight_any (x:Oz)(w:World)(h:OzOk w x):Calls Tryz.prog 43 #[.agg x.arr] w fun e w'=>e = .returned (.bool (opB x.v))/\Below w.heap.size w w':=
 opRight_any x.v.k x.v.nn x.v.a1 x.v.b1 x.v.c1 x.A1 x.m1 x.p1 x.v.l1 x.v.qn x.v.a2 x.v.b2 x.v.c2 x.v.tn x.v.tq x.v.tp x.v.a3 x.v.b3 x.v.c3 x.A3 x.m3 x.p3 x.v.l3 x.v.ta x.v.tg x.v.ts x.v.s w h.l1.len h.l1.cap h.l1.cap2 h.l3.len h.l3.cap h.l3.cap2 h.l1.rd h.l3.rd h.l1.sz h.l3.sz h.nn h.qn h.tn h.tq h.ta h.tg h.s
def RetL (b:Nat)(w:World)(A:Option Addr) (n c:Nat)(acts:List Ac):Prop:=n=acts.length/\RdA w A acts/\n<=c/\c<=9223372036854775807 /\ ∀ a,A=some a->b<=a.block
theorem RetL.nil (b:Nat)(w:World):RetL b w none 0 0 []:=⟨rfl,fun i x h=>(by simp at h),Nat.le_refl _,by omega,fun a h=>(by cases h)⟩
def Performs (b g:Nat)(vM vQ vJ:Value)(S:Sg)(x:Oz)(R:Sg × An):Prop:=∀ w,(∃ lst,Gs w b g lst vM vQ vJ S)->OzOk w x ->
 Calls Tryz.prog 44 #[.pointer (some ⟨g,0,none⟩),.agg x.arr] w fun e w'=>(∃ A n c,e = .returned (.tuple #[.slice A n c,.int .i64 R.2.1])/\RetL w.heap.size w' A n c R.2.2)/\Went w w' b g vM vQ vJ S R.1
theorem Went.wrap {w w1 w2 w3:World}{b g a:Nat}{lst:Int}{vM vQ vJ:Value}{S T:Sg}(hG:Gs w b g lst vM vQ vJ S)(hb:Below w.heap.size w w1)(h:Went w1 w2 b g vM vQ vJ S T)(hg:w2.grownBy w3 (some a))(ha:w.heap.size<=a)(ha2:a<w1.heap.size):Went w w3 b g vM vQ vJ S T:=by
 obtain ⟨lst',vM',vQ',vJ',S',h1,h2,h3,h4⟩:=h
 have ho:∀ k,blkG g vM' vQ' vJ' S' k->k ≠ a:=fun k hk e=>by
  rcases h4 k hk with h | h
  ·have:=(hG.blk h).2;omega
  ·omega
 refine ⟨lst',vM',vQ',vJ',S',h1.grp (GrP.of hg) (fun k hk e=>by injection e with e;exact ho k hk e.symm),h2,?_,fun k hk=>(h4 k hk).imp id (fun h=>Nat.le_trans hb.size h)⟩
 have h5:GrP (fun k=>blkG g vM vQ vJ S k ∨ k=a) w w3:=((GrP.ofBelow hb).trans (h3.wide fun k _ e=>.inl e)).trans ((GrP.of hg).wide fun k _ e=>.inr (by injection e with e;exact e.symm))
 exact h5.wide fun k hk e=>e.resolve_right (by omega)
theorem Went.before {w w1 w2:World}{b g:Nat}{vM vQ vJ:Value}{S T:Sg}(hb:Below w.heap.size w w1)(h:Went w1 w2 b g vM vQ vJ S T):Went w w2 b g vM vQ vJ S T:=by
 obtain ⟨lst',vM',vQ',vJ',S',h1,h2,h3,h4⟩:=h
 exact ⟨lst',vM',vQ',vJ',S',h1,h2,(GrP.ofBelow hb).trans h3,fun k hk=>(h4 k hk).imp id (fun h=>Nat.le_trans hb.size h)⟩
theorem RetL.past {w w':World} {b b' a:Nat}{A:Option Addr}{n c:Nat}{acts:List Ac}(h:RetL b w A n c acts)(hb:b' <= b)(hg:w.grownBy w' (some a))(ha:a<b):RetL b' w' A n c acts:=by
 obtain ⟨h1,h2,h3,h4,h5⟩:=h
 refine ⟨h1,fun i x hx=>?_,h3,h4,fun p hp=>Nat.le_trans hb (h5 p hp)⟩
 obtain ⟨g,o,hA,c1,c2,c3⟩:=h2 i x hx
 have hga:g ≠ a:=by have:=h5 _ hA;simp only at this;omega
 have hc:∀ (o:Nat)(u:Value),w.cell? ⟨g,o,none⟩=some u->w'.cell? ⟨g,o,none⟩=some u:=fun o u hu=>by
  rw [World.cell?_of_block (hg.block g (World.block_lt_of_cell? w _ hu) (by simp;exact hga))];exact hu
 exact ⟨g,o,hA,hc _ _ c1,hc _ _ c2,hc _ _ c3⟩


theorem do_any (b g:Nat)(vM vQ vJ:Value)(S:Sg)(x:Oz)(R:Sg × An)(w:World)(hG:Hid (∃ lst,Gs w b g lst vM vQ vJ S))(hx:Hid (OzOk w x))(hP:opB x.v=true->Performs b g vM vQ vJ S x R) :
  Calls Tryz.prog 18 #[.pointer (some ⟨g,0,none⟩),.agg x.arr] w fun e w'=>
   (∃ A n c,e = .returned (.agg #[.int .i64 (if opB x.v then R.2.1 else 1),.slice A n c])/\RetL w.heap.size w' A n c (if opB x.v then R.2.2 else []))/\Went w w' b g vM vQ vJ S (if opB x.v then R.1 else S):=by
 have k1:=fun W h=>ozRight_any x W h
 obtain ⟨o,ho⟩:∃ o,opB x.v=o:=⟨_,rfl⟩
 rw [ho] at k1 hP ⊢
 have K1:=Lib.hid k1;have HP:=Lib.hid hP
 clear k1 hP ho
 have hxl:=fun W (h:Below w.heap.size w W)=>hx.out.later h
 have HX:=Lib.hid hxl;clear hxl
 obtain ⟨⟨k,nn,a1,b1,c1,l1,qn,a2,b2,c2,tn,tq,tp,a3,b3,c3,l3,ta,tg,ts,s⟩,A1,m1,p1,A3,m3,p3⟩:=x
 obtain ⟨e0,e1⟩:∃ e0 e1,R=(e0,e1):=⟨_,_,rfl⟩
 obtain ⟨W0,hW0⟩:∃ W0,W0=(w.alloc (.cells #[.int .i64 k,.string nn,.int .i64 a1,.int .i64 b1,.int .i64 c1,.slice A1 m1 p1,.string qn,.int .i64 a2,.int .i64 b2,.int .i64 c2,.string tn,.string tq,.int .i64 tp,.int .i64 a3,.int .i64 b3,.int .i64 c3,.slice A3 m3 p3,.string ta,.string tg,.int .i64 ts,.string s] 49)).alloc (.cells #[.int .i64 0,.slice none 0 0] 36):=⟨_,rfl⟩
 have HO0:Hid (Bk W0 w.heap.size 49 #[.int .i64 k,.string nn,.int .i64 a1,.int .i64 b1,.int .i64 c1,.slice A1 m1 p1,.string qn,.int .i64 a2,.int .i64 b2,.int .i64 c2,.string tn,.string tq,.int .i64 tp,.int .i64 a3,.int .i64 b3,.int .i64 c3,.slice A3 m3 p3,.string ta,.string tg,.int .i64 ts,.string s]):=by rw [hW0];exact (Bk.fresh w _ _).later ((Below.refl _ _).alloc (Nat.le_refl _) _)
 have HA0:Hid (Bk W0 (w.heap.size+1) 36 #[.int .i64 0,.slice none 0 0]):=by rw [hW0];exact Bk.freshAt _ _ _ (by simp)
 have hB0:Below w.heap.size w W0:=by rw [hW0];exact ((Below.refl _ _).alloc (Nat.le_refl _) _).alloc (by simp) _
 subst hW0
 go_enter Tryz.func18,Tryz.ntmps18
 go_wp2_with ((with_reducible refine load_bk rfl 49 _ rfl w.heap.size 0 rfl 49 #[.int .i64 k,.string nn,.int .i64 a1,.int .i64 b1,.int .i64 c1,.slice A1 m1 p1,.string qn,.int .i64 a2,.int .i64 b2,.int .i64 c2,.string tn,.string tq,.int .i64 tp,.int .i64 a3,.int .i64 b3,.int .i64 c3,.slice A3 m3 p3,.string ta,.string tg,.int .i64 ts,.string s] #[.int .i64 k,.string nn,.int .i64 a1,.int .i64 b1,.int .i64 c1,.slice A1 m1 p1,.string qn,.int .i64 a2,.int .i64 b2,.int .i64 c2,.string tn,.string tq,.int .i64 tp,.int .i64 a3,.int .i64 b3,.int .i64 c3,.slice A3 m3 p3,.string ta,.string tg,.int .i64 ts,.string s] _ HO0.out (Part.whole _) Tryz.underlying49 rfl (by kernel_rfl) ?_))
 refine (K1.out _ (HX.out _ hB0)).mono ?_;rintro e w1 ⟨rfl,hb1⟩
 have HO1:=Lib.hid (HO0.out.later hb1);have HA1:=Lib.hid (HA0.out.later hb1)
 have hB1:Below w.heap.size w w1:=hB0.trans (hb1.mono hB0.size)
 have lt1:w.heap.size+1<w1.heap.size:=HA1.out.here
 clear HO0 HA0 hB0 hb1 K1
 cases o
 case false=>
  go_wp2_with ((with_reducible refine store_bk rfl 36 (.tmp 4) (.tmp 14) rfl (w.heap.size+1) 0 #[.int .i64 1,.slice none 0 0] rfl rfl 36 _ #[.int .i64 1,.slice none 0 0] HA1.out (by kernel_rfl) (by simp) (by kernel_rfl) rfl ?_);intro w2 hB2 hg2 hs2)
  obtain ⟨lst,hG'⟩:=hG.out
  exact bodyPost_ret (v:=.agg #[.int .i64 1,.slice none 0 0]) (results_bk1 Tryz.results18 _ _ (w.heap.size+1) 36 _ _ rfl hB2 Tryz.underlying36 rfl (by kernel_rfl)) rfl ⟨⟨none,0,0,rfl,RetL.nil _ _⟩,Went.wrap hG' hB1 (Went.same (hG'.below hB1) (Below.refl _ _)) hg2 (by omega) lt1⟩
 case true=>
  have hP1:=HP.out rfl w1 (by obtain ⟨lst,hG'⟩:=hG.out;exact ⟨lst,hG'.below hB1⟩) (HX.out _ hB1)
  have HP1:=Lib.hid hP1;clear hP1
  go_wp2_with ((with_reducible refine load_bk rfl 49 _ rfl w.heap.size 0 rfl 49 #[.int .i64 k,.string nn,.int .i64 a1,.int .i64 b1,.int .i64 c1,.slice A1 m1 p1,.string qn,.int .i64 a2,.int .i64 b2,.int .i64 c2,.string tn,.string tq,.int .i64 tp,.int .i64 a3,.int .i64 b3,.int .i64 c3,.slice A3 m3 p3,.string ta,.string tg,.int .i64 ts,.string s] #[.int .i64 k,.string nn,.int .i64 a1,.int .i64 b1,.int .i64 c1,.slice A1 m1 p1,.string qn,.int .i64 a2,.int .i64 b2,.int .i64 c2,.string tn,.string tq,.int .i64 tp,.int .i64 a3,.int .i64 b3,.int .i64 c3,.slice A3 m3 p3,.string ta,.string tg,.int .i64 ts,.string s] _ HO1.out (Part.whole _) Tryz.underlying49 rfl (by kernel_rfl) ?_))
  refine HP1.out.mono ?_;rintro e w2 ⟨⟨A,n,c,rfl,hR⟩,hW⟩
  have HW:=Lib.hid hW;have HR:=Lib.hid hR;clear hW hR
  have HA2:Hid (Bk w2 (w.heap.size+1) 36 #[.int .i64 0,.slice none 0 0]):=by
   obtain ⟨lst,hG'⟩:=hG.out
   obtain ⟨_,_,_,_,_,_,_,h3,_⟩:=HW.out
   exact HA1.out.grp h3 fun e=>by have:=(hG'.blk e).2;omega
  obtain ⟨R1,err,acts⟩:=R
  simp only at HW HR
  go_wp2_with ((with_reducible refine store_bk rfl 36 (.tmp 4) (.tmp 23) rfl (w.heap.size+1) 0 #[.int .i64 err,.slice A n c] rfl rfl 36 _ #[.int .i64 err,.slice A n c] HA2.out (by kernel_rfl) (by simp) (by kernel_rfl) rfl ?_);intro w3 hB3 hg3 hs3)
  obtain ⟨lst,hG'⟩:=hG.out
  exact bodyPost_ret (v:=.agg #[.int .i64 err,.slice A n c]) (results_bk1 Tryz.results18 _ _ (w.heap.size+1) 36 _ _ rfl hB3 Tryz.underlying36 rfl (by kernel_rfl)) rfl ⟨⟨A,n,c,rfl,HR.out.past hB1.size hg3 lt1⟩,Went.wrap hG' hB1 HW.out hg3 (by omega) lt1⟩


theorem perform_3 (b g:Nat)(vM vQ vJ:Value)(S:Sg)(x:Oz)(hk:x.v.k=3)(hM:Sm S)(hA:AscK (S.Q.map fun q=>q.1))(hI:hasK x.que.1 (S.Q.map fun q=>q.1)=false->InsQ b vQ S.Q x.que):Performs b g vM vQ vJ S x (addQ S x.que):=by
 intro w hG hx
 have k1:=fun (W:World)(h:∃ lst,Gs W b g lst vM vQ vJ S)=>h.elim fun lst h=>addQueue_any b g lst vM vQ vJ S x.que W h hM hA hx.qn hI
 have K1:=Lib.hid k1;have HG:=Lib.hid hG
 clear k1 hG hx hA hI
 obtain ⟨R,hR⟩:∃ R,R=addQ S x.que:=⟨_,rfl⟩
 rw [<- hR] at K1 ⊢
 have hR3:R.2.2=[]:=by rw [hR];unfold addQ;split;rfl;split <;> rfl
 clear hR
 obtain ⟨⟨k,nn,a1,b1,c1,l1,qn,a2,b2,c2,tn,tq,tp,a3,b3,c3,l3,ta,tg,ts,s⟩,A1,m1,p1,A3,m3,p3⟩:=x
 simp only at hk
 subst hk
 obtain ⟨R1,err,acts⟩:=R
 simp only at hR3
 subst hR3
 have HO0:Hid (Bk (w.alloc (.cells #[.int .i64 3,.string nn,.int .i64 a1,.int .i64 b1,.int .i64 c1,.slice A1 m1 p1,.string qn,.int .i64 a2,.int .i64 b2,.int .i64 c2,.string tn,.string tq,.int .i64 tp,.int .i64 a3,.int .i64 b3,.int .i64 c3,.slice A3 m3 p3,.string ta,.string tg,.int .i64 ts,.string s] 49)) w.heap.size 49 #[.int .i64 3,.string nn,.int .i64 a1,.int .i64 b1,.int .i64 c1,.slice A1 m1 p1,.string qn,.int .i64 a2,.int .i64 b2,.int .i64 c2,.string tn,.string tq,.int .i64 tp,.int .i64 a3,.int .i64 b3,.int .i64 c3,.slice A3 m3 p3,.string ta,.string tg,.int .i64 ts,.string s]):=Bk.fresh w _ _
 have hB0:Below w.heap.size w (w.alloc (.cells #[.int .i64 3,.string nn,.int .i64 a1,.int .i64 b1,.int .i64 c1,.slice A1 m1 p1,.string qn,.int .i64 a2,.int .i64 b2,.int .i64 c2,.string tn,.string tq,.int .i64 tp,.int .i64 a3,.int .i64 b3,.int .i64 c3,.slice A3 m3 p3,.string ta,.string tg,.int .i64 ts,.string s] 49)):=(Below.refl _ _).alloc (Nat.le_refl _) _
 go_enter Tryz.func44,Tryz.ntmps44
 go_wp2_with ((with_reducible refine load_bk rfl 45 _ rfl w.heap.size 6 rfl 49 #[.int .i64 3,.string nn,.int .i64 a1,.int .i64 b1,.int .i64 c1,.slice A1 m1 p1,.string qn,.int .i64 a2,.int .i64 b2,.int .i64 c2,.string tn,.string tq,.int .i64 tp,.int .i64 a3,.int .i64 b3,.int .i64 c3,.slice A3 m3 p3,.string ta,.string tg,.int .i64 ts,.string s] #[.string qn,.int .i64 a2,.int .i64 b2,.int .i64 c2] _ HO0.out (Part.of rfl) Tryz.underlying45 rfl (by kernel_rfl) ?_))
 refine (K1.out _ (HG.out.elim fun lst h=>⟨lst,h.below hB0⟩)).mono ?_;rintro e w2 ⟨rfl,hW⟩
 have HW:=Lib.hid hW;clear hW
 go_wp2_with fail
 exact bodyPost_ret (v:=.tuple #[.slice none 0 0,.int .i64 err]) (by simp [results,Tryz.results44,go_sem]) rfl ⟨⟨none,0,0,rfl,RetL.nil _ _⟩,Went.before hB0 HW.out⟩
end
end Go.Proofs.YtccccbofcnmdiaaGreat
