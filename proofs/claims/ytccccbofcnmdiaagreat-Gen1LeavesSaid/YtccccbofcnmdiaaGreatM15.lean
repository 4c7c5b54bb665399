/- Lemmas that the law stands on. No condition. -/
import Derived.Test.YtccccbofcnmdiaaGreatM06
import Derived.Test.YtccccbofcnmdiaaGreatM14
namespace Go.Proofs.YtccccbofcnmdiaaGreat
set_option linter.unusedSimpArgs false
set_option linter.unusedVariables false
set_option maxRecDepth 100000
set_option maxHeartbeats 51200000
section
open Go.RowKit
theorem run_apart {P:Program} {w:World} (tS tR e:TypeId) (ht:P.underlying tS=some (.slice e)) (size:Nat) (hz:(P.info? e).map (·.size)=some size)
  (a b:Addr) (la ca lb cb:Nat) (hne:a.block ≠ b.block) (tA:TypeId) (cs:Array Value) (ha:Bk w a.block tA cs) (L:List (List Value)) (k:Nat) (hb:RowKg w b.block e k L) (hL:0<L.length) (hk:0<k) :
  (Extern.SlicesOverlaps.overlaps #[tS,tS] #[tR] #[.slice (some a) la ca,.slice (some b) lb cb]).run P w = .ok (.bool false) w:=by
 have hl:L.flatten.toArray.size ≠ 0:=by
  rw [List.size_toArray,flat_length hb.each]
  exact Nat.ne_of_gt (Nat.mul_pos hL hk)
 have hA:w.heap[a.block]? = some (.cells cs tA (0,0)):=ha
 refine Lib.run_overlaps_apart w tS tR e ht size (fun w=>?_) a b la ca lb cb hne tA e cs.size L.flatten.toArray.size (by simp [World.shape?,hA]) (by simp [World.shape?,hb.row]) hl (by simp [World.frozen?,hA]) (by simp [World.frozen?,hA])
 cases hq:P.info? e with
 | none=>simp [hq] at hz
 | some i=>
  have hi:i.size=size:=by simpa [hq] using hz
  simp [sizeOf,typeInfo,hq,hi]
theorem mid_room {l S:List (List Value)} {x:List Value} {n i:Nat} (hl:l.length=n) (hi:i<n) (hS:0<S.length) :
  (((l ++ S).take (i+1) ++ l.drop i ++ (l ++ S).drop (i+1+(l.drop i).length)).take i ++ [x] ++ ((l ++ S).take (i+1) ++ l.drop i ++ (l ++ S).drop (i+1+(l.drop i).length)).drop (i+[x].length)).take (n+1)=l.take i ++ x :: l.drop i:=by
 have e1:((l ++ S).take (i+1) ++ l.drop i ++ (l ++ S).drop (i+1+(l.drop i).length)).take i=l.take i:=by
  rw [List.append_assoc,List.take_append_of_le_length (by rw [List.length_take,List.length_append];omega),List.take_take,Nat.min_eq_left (by omega),List.take_append_of_le_length (by omega)]
 have e2:((l ++ S).take (i+1) ++ l.drop i ++ (l ++ S).drop (i+1+(l.drop i).length)).drop (i+[x].length)=l.drop i ++ (l ++ S).drop (i+1+(l.drop i).length):=by
  rw [List.append_assoc,List.drop_append_of_le_length (by rw [List.length_take,List.length_append,List.length_singleton];omega),List.drop_of_length_le (by rw [List.length_take,List.length_append,List.length_singleton];omega),List.nil_append]
 rw [e1,e2,<- List.append_assoc,List.append_assoc (l.take i),List.take_append_of_le_length (by simp only [List.length_append,List.length_take,List.length_drop,List.length_singleton];omega),List.take_of_length_le (by simp only [List.length_append,List.length_take,List.length_drop,List.length_singleton];omega)]
 simp
theorem mid_grow {l S:List (List Value)} {x:List Value} {n i:Nat} (hl:l.length=n) (hi:i<n) (hS:n+1<=i+S.length) :
  (((l.take i ++ S).take i ++ [x] ++ (l.take i ++ S).drop (i+[x].length)).take (i+1) ++ l.drop i ++ ((l.take i ++ S).take i ++ [x] ++ (l.take i ++ S).drop (i+[x].length)).drop (i+1+(l.drop i).length)).take (n+1)=l.take i ++ x :: l.drop i:=by
 have e0:(l.take i ++ S).take i=l.take i:=by
  rw [List.take_append_of_le_length (by rw [List.length_take];omega),List.take_take,Nat.min_self]
 have e1:((l.take i ++ S).take i ++ [x] ++ (l.take i ++ S).drop (i+[x].length)).take (i+1)=l.take i ++ [x]:=by
  rw [e0,List.take_append_of_le_length (by simp only [List.length_append,List.length_take,List.length_singleton];omega),List.take_of_length_le (by simp only [List.length_append,List.length_take,List.length_singleton];omega)]
 rw [e1,List.take_append_of_le_length (by simp only [List.length_append,List.length_take,List.length_drop,List.length_singleton];omega),List.take_of_length_le (by simp only [List.length_append,List.length_take,List.length_drop,List.length_singleton];omega)]
 simp


theorem insertQ_room (base g n c i:Nat) (l S:List (List Value)) (x:List Value) (ad:Addr) (cv:Nat) (tA:TypeId) (cs:Array Value) (w:World) (hl:Hid (l.length=n)) (hbig:n<=1000) (hi:i<n) (hR:Hid (RowKg w g 45 4 (l ++ S))) (hS:Hid (n+S.length=c)) (hbg:Hid (base<=g)) (hc:n<c) (hc2:c<=9223372036854775807) (hc3:Hid (c<=maxLen))
  (h1:Hid (∀ x ∈ l,∀ u ∈ x,u.oneCell' = true)) (hx:Hid (x.length=4 /\ ∀ u ∈ x,u.oneCell' = true)) (hr:Hid (RdK w 4 (some ad) [x])) (hA:Hid (Bk w ad.block tA cs)) (hne:Hid (ad.block ≠ g)) :
  Calls Tryz.prog 128 #[.slice (some ⟨g,0,none⟩) n c,.int .i64 i,.slice (some ad) 1 cv] w fun e w'=>e = .returned (.slice (some ⟨g,0,none⟩) (n+1) c)/\OwnK w' base 45 4 (.slice (some ⟨g,0,none⟩) (n+1) c) (l.take i ++ x :: l.drop i)/\w.grownBy w' (some g)/\w'.heap.size=w.heap.size:=by
 have hov:∀ o lb cb,(callFunc 163 #[.slice (some ad) 1 cv,.slice (some ⟨g,o,none⟩) lb cb]).run Tryz.prog w = .ok (.value (.bool false)) w:=fun o lb cb=>by
  rw [run_callFunc_extern Tryz.func163 (by kernel_rfl) (by kernel_rfl) (by kernel_rfl) (e:=Extern.SlicesOverlaps.overlaps #[28,28] #[4]) (by kernel_rfl),
   run_apart 28 4 45 Tryz.underlying28 4 (by kernel_rfl) ad ⟨g,o,none⟩ 1 cv lb cb hne.out tA cs hA.out (l ++ S) 4 hR.out (by rw [List.length_append];have:=hl.out;omega) (by decide)]
  rfl
 have hmid:=Lib.hid (mid_room (S:=S) (x:=x) hl.out hi (by have:=hS.out;omega):_=l.take i ++ x :: l.drop i)
 have hL:Hid ((l ++ S).length=c):=by show _=_;rw [List.length_append,hl.out];exact hS.out
 have hD:Hid ((l.drop i).length=n - i):=by show _=_;rw [List.length_drop,hl.out]
 have hP:Hid (∀ j u,(l.drop i).flatten[j]? = some u->w.cell? ((⟨g,i * 4,none⟩:Addr).add j)=some u):=by
  have:=hR.out.part i (n - i)
  rw [List.drop_append_of_le_length (by have:=hl.out;omega),List.take_append_of_le_length (by rw [hD.out];exact Nat.le_refl _),List.take_of_length_le (by rw [hD.out];exact Nat.le_refl _)] at this
  exact this
 have hw1:IntKind.i64.wrap ((i:Int)+1)=(i:Int)+1:=by rw [IntKind.wrap_i64];omega
 have hb1:(0:Int)<=(i:Int)+1:=by omega
 have hin:i<=n:=by omega
 have htn:((i:Int)+1).toNat=i+1:=by omega
 have hb2:¬ (c=i+1):=by omega
 have hb3:(i:Int)<=(n:Int)+1:=by omega
 have hb4:¬ (c=i):=by omega
 have hsr:∀ (W:World),w.grownBy W (some g) -> ∀ j u,[x].flatten[j]? = some u->W.cell? (ad.add j)=some u:=fun W hg=>by
  have hne':=hne.out
  have hrd:=hr.out
  refine RdK.cells (k:=4) (fun i y hy=>?_) (fun y hy=>by rw [List.mem_singleton.1 hy];exact hx.out.1)
  obtain ⟨g',o,ha,hra⟩:=hrd i y hy
  refine ⟨g',o,ha,fun j v hv=>hg.cell (hra j v hv) ?_⟩
  injection ha with ha
  subst ha
  intro e
  injection e with e
  exact hne' e
 have hsr':=Lib.hid hsr
 clear hsr
 go_enter Tryz.func128,Tryz.ntmps128
 go_wp2_with (simp only [hov])
 go_region_law (refine step_copy_k rfl (.tmp 73) (.tmp 76) 28 rfl 45 4 Tryz.underlying28 (by kernel_rfl) g (i+1) ((i+1) * 4) (n+1 - (i+1)) (c - (i+1)) (l ++ S) hR.out.drew (by simp [Act.eval,Act.put]) rfl ⟨g,i * 4,none⟩ (n+1 - i) (c - i) (by simp [Act.eval,Act.put]) (l.drop i) (fun y hy=>hR.out.each y (List.mem_append_left _ (List.mem_of_mem_drop hy))) (fun y hy=>h1.out y (List.mem_of_mem_drop hy)) (by rw [hD.out];show _=min _ _;omega) hP.out (by rw [hD.out,hL.out];omega) ?_;intro w1 r1 g1 z1)
 have T:=Lib.hid (drew_grown g1)
 have R1:=Lib.hid r1
 have Z1:Hid (w1.heap.size=w.heap.size):=z1
 clear g1 r1 z1
 go_wp2_with (first | (with_reducible refine copy_k _ rfl (.tmp 80) (.tmp 81) 28 rfl 45 4 Tryz.underlying28 (by kernel_rfl) g i (i * 4) (n+1 - i) (c - i) _ R1.out rfl rfl ad 1 cv rfl [x] (fun y hy=>by rw [List.mem_singleton.1 hy];exact hx.out.1) (fun y hy=>by rw [List.mem_singleton.1 hy];exact hx.out.2) (by rw [List.length_singleton];show _=min _ _;omega) (hsr'.out _ T.out) (by have h1:=hL.out;have h2:=hD.out;have h3:=hl.out;have h4:=hS.out;simp only [List.length_append,List.length_take,List.length_drop,List.length_singleton] at *;omega) ?_;intro w2 r2 g2 z2))
 all_goals go_ret
 all_goals
  have q:=r2.own (n:=n+1) (c:=c) hbg.out (by have h1:=hL.out;have h2:=hD.out;have h3:=hl.out;have h4:=hS.out;simp only [List.length_append,List.length_take,List.length_drop,List.length_singleton] at *;omega) hc3.out (by omega)
  rw [hmid.out] at q
  exact ⟨rfl,q,⟨g2.os.trans T.out.os,g2.tape.trans T.out.tape,g2.output.trans T.out.output,Nat.le_trans T.out.size g2.size,fun k hk hn=>(g2.block k (Nat.lt_of_lt_of_le hk T.out.size) hn).trans (T.out.block k hk hn)⟩,z2.trans Z1.out⟩


theorem insertQ_grow (base g n i:Nat) (l:List (List Value)) (x:List Value) (ad:Addr) (cv:Nat) (w:World) (hl:Hid (l.length=n)) (hbig:n<=1000) (hi:i<n) (hR:Hid (RowKg w g 45 4 l)) (hbg:Hid (base<=w.heap.size)) (hgl:Hid (g<w.heap.size)) (hal:Hid (ad.block<w.heap.size))
  (h1:Hid (∀ x ∈ l,∀ u ∈ x,u.oneCell' = true)) (hx:Hid (x.length=4 /\ ∀ u ∈ x,u.oneCell' = true)) (hr:Hid (RdK w 4 (some ad) [x])) :
  Calls Tryz.prog 128 #[.slice (some ⟨g,0,none⟩) n n,.int .i64 i,.slice (some ad) 1 cv] w fun e w'=>∃ c,e = .returned (.slice (some ⟨w.heap.size,0,none⟩) (n+1) c)/\OwnK w' base 45 4 (.slice (some ⟨w.heap.size,0,none⟩) (n+1) c) (l.take i ++ x :: l.drop i)/\w.grownBy w' none/\w'.heap.size=w.heap.size+1:=by
 have hne1:((i:Int) == (n:Int))=false:=by simp;omega
 have hD:Hid ((l.drop i).length=n - i):=by show _=_;rw [List.length_drop,hl.out]
 have hT:Hid ((l.take i).length=i):=by show _=_;rw [List.length_take,hl.out];omega
 have hP:Hid (∀ (W:World),w.grownBy W none -> ∀ j u,(l.drop i).flatten[j]? = some u->W.cell? ((⟨g,i * 4,none⟩:Addr).add j)=some u):=fun W hg j u hu=>by
  have:=hR.out.part i (n - i)
  rw [List.take_of_length_le (by rw [hD.out];exact Nat.le_refl _)] at this
  have h:=this j u hu
  rw [Addr.add_lit] at h ⊢
  exact hg.cell h (by simp)
 have hsr:Hid (∀ (W:World),w.grownBy W none -> ∀ j u,[x].flatten[j]? = some u->W.cell? (ad.add j)=some u):=fun W hg=>by
  have hrd:=hr.out
  refine RdK.cells (k:=4) (fun i y hy=>?_) (fun y hy=>by rw [List.mem_singleton.1 hy];exact hx.out.1)
  obtain ⟨g',o,ha,hra⟩:=hrd i y hy
  exact ⟨g',o,ha,fun j v hv=>hg.cell (hra j v hv) (by simp)⟩
 have hQ:Hid (∀ j u,(l.take i).flatten[j]? = some u->w.cell? ((⟨g,0,none⟩:Addr).add j)=some u):=by
  have:=hR.out.part 0 i
  rw [Nat.zero_mul,List.drop_zero] at this
  exact this
 have hw1:IntKind.i64.wrap ((i:Int)+1)=(i:Int)+1:=by rw [IntKind.wrap_i64];omega
 have hb1:(0:Int)<=(i:Int)+1:=by omega
 have hin:i<=n:=by omega
 have htn:((i:Int)+1).toNat=i+1:=by omega
 have hb3:(i:Int)<=(n:Int)+1:=by omega
 have hb4:¬ (n=i):=by omega
 have hone:=Lib.hid (fun (W:World) (h:w.grownBy W none)=>h)
 go_enter Tryz.func128,Tryz.ntmps128
 go_wp2_with (first
  | (with_reducible refine made_k _ rfl (.tmp 34) (.tmp 39) 28 3 rfl 45 _ 4 40 .i64 .i64 Tryz.underlying28 (by kernel_rfl) infoQ15 rfl (by omega) ⟨g,0,none⟩ i n (n+1 - i) (l.take i) rfl _ rfl (by omega) (fun y hy=>hR.out.each y (List.mem_of_mem_take hy)) hT.out.symm hQ.out (n+1) (by omega) (by omega) (by omega) (by unfold maxLen;omega) (by omega) ?_;intro w1 G S r1 s1 s2 s3 g1 z1;have hG1:¬ (G=i):=(by omega);have hG2:¬ (G=i+1):=(by omega);have hG3:G<=9223372036854775807:=(by unfold maxLen at s3;omega);have R1:=Lib.hid r1;have S1:=Lib.hid s1;have S3:=Lib.hid s3;have T1:=Lib.hid g1;have Z1:=Lib.hid z1;clear r1 s1 s3 g1 z1)
  | (with_reducible refine copy_k _ rfl (.tmp 43) (.tmp 44) 28 rfl 45 4 Tryz.underlying28 (by kernel_rfl) w.heap.size i (i * 4) (n+1 - i) (G - i) _ R1.out rfl rfl ad 1 cv rfl [x] (fun y hy=>by rw [List.mem_singleton.1 hy];exact hx.out.1) (fun y hy=>by rw [List.mem_singleton.1 hy];exact hx.out.2) (by rw [List.length_singleton];show _=min _ _;omega) (hsr.out _ T1.out) (by have h1:=hT.out;have h4:=S1.out;simp only [List.length_append,List.length_singleton] at *;omega) ?_;intro w2 r2 g2 z2))
 have hlt:=Lib.hid hgl.out
 have T2:Hid (w.grownBy w2 none):=⟨g2.os.trans T1.out.os,g2.tape.trans T1.out.tape,g2.output.trans T1.out.output,Nat.le_trans T1.out.size g2.size,fun k hk hn=>(g2.block k (Nat.lt_of_lt_of_le hk T1.out.size) (by intro e;injection e with e;omega)).trans (T1.out.block k hk hn)⟩
 have R2:=Lib.hid r2
 have Z2:=Lib.hid z2
 clear r2 g2 z2
 go_region_law (refine step_copy_k rfl (.tmp 50) (.tmp 53) 28 rfl 45 4 Tryz.underlying28 (by kernel_rfl) w.heap.size (i+1) ((i+1) * 4) (n+1 - (i+1)) (G - (i+1)) _ R2.out.drew (by simp [Act.eval,Act.put]) rfl ⟨g,i * 4,none⟩ (n - i) (n - i) (by simp [Act.eval,Act.put]) (l.drop i) (fun y hy=>hR.out.each y (List.mem_of_mem_drop hy)) (fun y hy=>h1.out y (List.mem_of_mem_drop hy)) (by rw [hD.out];show _=min _ _;omega) (hP.out w2 T2.out) (by have h1:=hT.out;have h4:=S1.out;have h5:=hD.out;simp only [List.length_append,List.length_take,List.length_drop,List.length_singleton] at *;omega) ?_;intro w3 r3 g3 z3)
 have g3':=drew_grown g3
 go_wp2
 go_ret
 all_goals
  have hlen:=S1.out
  have q:=r3.own (n:=n+1) (c:=G) hbg.out (by have h1:=hT.out;have h4:=S1.out;have h5:=hD.out;simp only [List.length_append,List.length_take,List.length_drop,List.length_singleton] at *;omega) S3.out (by omega)
  rw [mid_grow hl.out hi (by omega)] at q
  exact ⟨G,rfl,q,⟨g3'.os.trans T2.out.os,g3'.tape.trans T2.out.tape,g3'.output.trans T2.out.output,Nat.le_trans T2.out.size g3'.size,fun k hk hn=>(g3'.block k (Nat.lt_of_lt_of_le hk T2.out.size) (by intro e;injection e with e;omega)).trans (T2.out.block k hk hn)⟩,(z3.trans Z2.out).trans Z1.out⟩


theorem insertM_room (base g n c i:Nat) (l S:List (List Value)) (x:List Value) (ad:Addr) (cv:Nat) (tA:TypeId) (cs:Array Value) (w:World) (hl:Hid (l.length=n)) (hbig:n<=1000) (hi:i<n) (hR:Hid (RowKg w g 60 7 (l ++ S))) (hS:Hid (n+S.length=c)) (hbg:Hid (base<=g)) (hc:n<c) (hc2:c<=9223372036854775807) (hc3:Hid (c<=maxLen))
  (h1:Hid (∀ x ∈ l,∀ u ∈ x,u.oneCell' = true)) (hx:Hid (x.length=7 /\ ∀ u ∈ x,u.oneCell' = true)) (hr:Hid (RdK w 7 (some ad) [x])) (hA:Hid (Bk w ad.block tA cs)) (hne:Hid (ad.block ≠ g)) :
  Calls Tryz.prog 124 #[.slice (some ⟨g,0,none⟩) n c,.int .i64 i,.slice (some ad) 1 cv] w fun e w'=>e = .returned (.slice (some ⟨g,0,none⟩) (n+1) c)/\OwnK w' base 60 7 (.slice (some ⟨g,0,none⟩) (n+1) c) (l.take i ++ x :: l.drop i)/\w.grownBy w' (some g)/\w'.heap.size=w.heap.size:=by
 have hov:∀ o lb cb,(callFunc 160 #[.slice (some ad) 1 cv,.slice (some ⟨g,o,none⟩) lb cb]).run Tryz.prog w = .ok (.value (.bool false)) w:=fun o lb cb=>by
  rw [run_callFunc_extern Tryz.func160 (by kernel_rfl) (by kernel_rfl) (by kernel_rfl) (e:=Extern.SlicesOverlaps.overlaps #[27,27] #[4]) (by kernel_rfl),
   run_apart 27 4 60 Tryz.underlying27 7 (by kernel_rfl) ad ⟨g,o,none⟩ 1 cv lb cb hne.out tA cs hA.out (l ++ S) 7 hR.out (by rw [List.length_append];have:=hl.out;omega) (by decide)]
  rfl
 have hmid:=Lib.hid (mid_room (S:=S) (x:=x) hl.out hi (by have:=hS.out;omega):_=l.take i ++ x :: l.drop i)
 have hL:Hid ((l ++ S).length=c):=by show _=_;rw [List.length_append,hl.out];exact hS.out
 have hD:Hid ((l.drop i).length=n - i):=by show _=_;rw [List.length_drop,hl.out]
 have hP:Hid (∀ j u,(l.drop i).flatten[j]? = some u->w.cell? ((⟨g,i * 7,none⟩:Addr).add j)=some u):=by
  have:=hR.out.part i (n - i)
  rw [List.drop_append_of_le_length (by have:=hl.out;omega),List.take_append_of_le_length (by rw [hD.out];exact Nat.le_refl _),List.take_of_length_le (by rw [hD.out];exact Nat.le_refl _)] at this
  exact this
 have hw1:IntKind.i64.wrap ((i:Int)+1)=(i:Int)+1:=by rw [IntKind.wrap_i64];omega
 have hb1:(0:Int)<=(i:Int)+1:=by omega
 have hin:i<=n:=by omega
 have htn:((i:Int)+1).toNat=i+1:=by omega
 have hb2:¬ (c=i+1):=by omega
 have hb3:(i:Int)<=(n:Int)+1:=by omega
 have hb4:¬ (c=i):=by omega
 have hsr:∀ (W:World),w.grownBy W (some g) -> ∀ j u,[x].flatten[j]? = some u->W.cell? (ad.add j)=some u:=fun W hg=>by
  have hne':=hne.out
  have hrd:=hr.out
  refine RdK.cells (k:=7) (fun i y hy=>?_) (fun y hy=>by rw [List.mem_singleton.1 hy];exact hx.out.1)
  obtain ⟨g',o,ha,hra⟩:=hrd i y hy
  refine ⟨g',o,ha,fun j v hv=>hg.cell (hra j v hv) ?_⟩
  injection ha with ha
  subst ha
  intro e
  injection e with e
  exact hne' e
 have hsr':=Lib.hid hsr
 clear hsr
 go_enter Tryz.func124,Tryz.ntmps124
 go_wp2_with (simp only [hov])
 go_region_law (refine step_copy_k rfl (.tmp 73) (.tmp 76) 27 rfl 60 7 Tryz.underlying27 (by kernel_rfl) g (i+1) ((i+1) * 7) (n+1 - (i+1)) (c - (i+1)) (l ++ S) hR.out.drew (by simp [Act.eval,Act.put]) rfl ⟨g,i * 7,none⟩ (n+1 - i) (c - i) (by simp [Act.eval,Act.put]) (l.drop i) (fun y hy=>hR.out.each y (List.mem_append_left _ (List.mem_of_mem_drop hy))) (fun y hy=>h1.out y (List.mem_of_mem_drop hy)) (by rw [hD.out];show _=min _ _;omega) hP.out (by rw [hD.out,hL.out];omega) ?_;intro w1 r1 g1 z1)
 have T:=Lib.hid (drew_grown g1)
 have R1:=Lib.hid r1
 have Z1:Hid (w1.heap.size=w.heap.size):=z1
 clear g1 r1 z1
 go_wp2_with (first | (with_reducible refine copy_k _ rfl (.tmp 80) (.tmp 81) 27 rfl 60 7 Tryz.underlying27 (by kernel_rfl) g i (i * 7) (n+1 - i) (c - i) _ R1.out rfl rfl ad 1 cv rfl [x] (fun y hy=>by rw [List.mem_singleton.1 hy];exact hx.out.1) (fun y hy=>by rw [List.mem_singleton.1 hy];exact hx.out.2) (by rw [List.length_singleton];show _=min _ _;omega) (hsr'.out _ T.out) (by have h1:=hL.out;have h2:=hD.out;have h3:=hl.out;have h4:=hS.out;simp only [List.length_append,List.length_take,List.length_drop,List.length_singleton] at *;omega) ?_;intro w2 r2 g2 z2))
 all_goals go_ret
 all_goals
  have q:=r2.own (n:=n+1) (c:=c) hbg.out (by have h1:=hL.out;have h2:=hD.out;have h3:=hl.out;have h4:=hS.out;simp only [List.length_append,List.length_take,List.length_drop,List.length_singleton] at *;omega) hc3.out (by omega)
  rw [hmid.out] at q
  exact ⟨rfl,q,⟨g2.os.trans T.out.os,g2.tape.trans T.out.tape,g2.output.trans T.out.output,Nat.le_trans T.out.size g2.size,fun k hk hn=>(g2.block k (Nat.lt_of_lt_of_le hk T.out.size) hn).trans (T.out.block k hk hn)⟩,z2.trans Z1.out⟩


theorem insertM_grow (base g n i:Nat) (l:List (List Value)) (x:List Value) (ad:Addr) (cv:Nat) (w:World) (hl:Hid (l.length=n)) (hbig:n<=1000) (hi:i<n) (hR:Hid (RowKg w g 60 7 l)) (hbg:Hid (base<=w.heap.size)) (hgl:Hid (g<w.heap.size)) (hal:Hid (ad.block<w.heap.size))
  (h1:Hid (∀ x ∈ l,∀ u ∈ x,u.oneCell' = true)) (hx:Hid (x.length=7 /\ ∀ u ∈ x,u.oneCell' = true)) (hr:Hid (RdK w 7 (some ad) [x])) :
  Calls Tryz.prog 124 #[.slice (some ⟨g,0,none⟩) n n,.int .i64 i,.slice (some ad) 1 cv] w fun e w'=>∃ c,e = .returned (.slice (some ⟨w.heap.size,0,none⟩) (n+1) c)/\OwnK w' base 60 7 (.slice (some ⟨w.heap.size,0,none⟩) (n+1) c) (l.take i ++ x :: l.drop i)/\w.grownBy w' none/\w'.heap.size=w.heap.size+1:=by
 have hne1:((i:Int) == (n:Int))=false:=by simp;omega
 have hD:Hid ((l.drop i).length=n - i):=by show _=_;rw [List.length_drop,hl.out]
 have hT:Hid ((l.take i).length=i):=by show _=_;rw [List.length_take,hl.out];omega
 have hP:Hid (∀ (W:World),w.grownBy W none -> ∀ j u,(l.drop i).flatten[j]? = some u->W.cell? ((⟨g,i * 7,none⟩:Addr).add j)=some u):=fun W hg j u hu=>by
  have:=hR.out.part i (n - i)
  rw [List.take_of_length_le (by rw [hD.out];exact Nat.le_refl _)] at this
  have h:=this j u hu
  rw [Addr.add_lit] at h ⊢
  exact hg.cell h (by simp)
 have hsr:Hid (∀ (W:World),w.grownBy W none -> ∀ j u,[x].flatten[j]? = some u->W.cell? (ad.add j)=some u):=fun W hg=>by
  have hrd:=hr.out
  refine RdK.cells (k:=7) (fun i y hy=>?_) (fun y hy=>by rw [List.mem_singleton.1 hy];exact hx.out.1)
  obtain ⟨g',o,ha,hra⟩:=hrd i y hy
  exact ⟨g',o,ha,fun j v hv=>hg.cell (hra j v hv) (by simp)⟩
 have hQ:Hid (∀ j u,(l.take i).flatten[j]? = some u->w.cell? ((⟨g,0,none⟩:Addr).add j)=some u):=by
  have:=hR.out.part 0 i
  rw [Nat.zero_mul,List.drop_zero] at this
  exact this
 have hw1:IntKind.i64.wrap ((i:Int)+1)=(i:Int)+1:=by rw [IntKind.wrap_i64];omega
 have hb1:(0:Int)<=(i:Int)+1:=by omega
 have hin:i<=n:=by omega
 have htn:((i:Int)+1).toNat=i+1:=by omega
 have hb3:(i:Int)<=(n:Int)+1:=by omega
 have hb4:¬ (n=i):=by omega
 have hone:=Lib.hid (fun (W:World) (h:w.grownBy W none)=>h)
 go_enter Tryz.func124,Tryz.ntmps124
 go_wp2_with (first
  | (with_reducible refine made_k _ rfl (.tmp 34) (.tmp 39) 27 3 rfl 60 _ 7 80 .i64 .i64 Tryz.underlying27 (by kernel_rfl) infoM15 rfl (by omega) ⟨g,0,none⟩ i n (n+1 - i) (l.take i) rfl _ rfl (by omega) (fun y hy=>hR.out.each y (List.mem_of_mem_take hy)) hT.out.symm hQ.out (n+1) (by omega) (by omega) (by omega) (by unfold maxLen;omega) (by omega) ?_;intro w1 G S r1 s1 s2 s3 g1 z1;have hG1:¬ (G=i):=(by omega);have hG2:¬ (G=i+1):=(by omega);have hG3:G<=9223372036854775807:=(by unfold maxLen at s3;omega);have R1:=Lib.hid r1;have S1:=Lib.hid s1;have S3:=Lib.hid s3;have T1:=Lib.hid g1;have Z1:=Lib.hid z1;clear r1 s1 s3 g1 z1)
  | (with_reducible refine copy_k _ rfl (.tmp 43) (.tmp 44) 27 rfl 60 7 Tryz.underlying27 (by kernel_rfl) w.heap.size i (i * 7) (n+1 - i) (G - i) _ R1.out rfl rfl ad 1 cv rfl [x] (fun y hy=>by rw [List.mem_singleton.1 hy];exact hx.out.1) (fun y hy=>by rw [List.mem_singleton.1 hy];exact hx.out.2) (by rw [List.length_singleton];show _=min _ _;omega) (hsr.out _ T1.out) (by have h1:=hT.out;have h4:=S1.out;simp only [List.length_append,List.length_singleton] at *;omega) ?_;intro w2 r2 g2 z2))
 have hlt:=Lib.hid hgl.out
 have T2:Hid (w.grownBy w2 none):=⟨g2.os.trans T1.out.os,g2.tape.trans T1.out.tape,g2.output.trans T1.out.output,Nat.le_trans T1.out.size g2.size,fun k hk hn=>(g2.block k (Nat.lt_of_lt_of_le hk T1.out.size) (by intro e;injection e with e;omega)).trans (T1.out.block k hk hn)⟩
 have R2:=Lib.hid r2
 have Z2:=Lib.hid z2
 clear r2 g2 z2
 go_region_law (refine step_copy_k rfl (.tmp 50) (.tmp 53) 27 rfl 60 7 Tryz.underlying27 (by kernel_rfl) w.heap.size (i+1) ((i+1) * 7) (n+1 - (i+1)) (G - (i+1)) _ R2.out.drew (by simp [Act.eval,Act.put]) rfl ⟨g,i * 7,none⟩ (n - i) (n - i) (by simp [Act.eval,Act.put]) (l.drop i) (fun y hy=>hR.out.each y (List.mem_of_mem_drop hy)) (fun y hy=>h1.out y (List.mem_of_mem_drop hy)) (by rw [hD.out];show _=min _ _;omega) (hP.out w2 T2.out) (by have h1:=hT.out;have h4:=S1.out;have h5:=hD.out;simp only [List.length_append,List.length_take,List.length_drop,List.length_singleton] at *;omega) ?_;intro w3 r3 g3 z3)
 have g3':=drew_grown g3
 go_wp2
 go_ret
 all_goals
  have hlen:=S1.out
  have q:=r3.own (n:=n+1) (c:=G) hbg.out (by have h1:=hT.out;have h4:=S1.out;have h5:=hD.out;simp only [List.length_append,List.length_take,List.length_drop,List.length_singleton] at *;omega) S3.out (by omega)
  rw [mid_grow hl.out hi (by omega)] at q
  exact ⟨G,rfl,q,⟨g3'.os.trans T2.out.os,g3'.tape.trans T2.out.tape,g3'.output.trans T2.out.output,Nat.le_trans T2.out.size g3'.size,fun k hk hn=>(g3'.block k (Nat.lt_of_lt_of_le hk T2.out.size) (by intro e;injection e with e;omega)).trans (T2.out.block k hk hn)⟩,(z3.trans Z2.out).trans Z1.out⟩

theorem insertQ_any (base:Nat) (v:Value) (L:List Qx) (q:Qx) (i:Nat) (ad:Addr) (cv:Nat) (w:World) (hbig:L.length<=1000) (hi:i<=L.length) (hO:Hid (OwnK w base 45 4 v (cellsQ L))) (hr:Hid (RdK w 4 (some ad) (cellsQ [q]))) (hA:Hid (∃ t cs,Bk w ad.block t cs)) (hne:Hid (∀ g,v.ownBlock=some g->ad.block ≠ g)) (hb:base<=w.heap.size) :
  Calls Tryz.prog 128 #[v,.int .i64 i,.slice (some ad) 1 cv] w fun e w'=>(∃ v',e = .returned v' /\ OwnK w' base 45 4 v' (cellsQ (L.take i ++ q :: L.drop i))/\(v'.ownBlock=v.ownBlock ∨ v'.ownBlock=some w.heap.size))/\w.grownBy w' v.ownBlock:=by
 by_cases hil:i=L.length
 ·subst hil
  rw [List.take_length,List.drop_length]
  exact insertQ_end base v L q ad cv L.length w (show _=_ from rfl) hbig hO hr hb
 ·have hlt:i<L.length:=by omega
  have hcl:(cellsQ L).length=L.length:=cellsQ_length L
  have hx1':cellsQ [q]=[Qx.cells q]:=rfl
  obtain ⟨x,hx⟩:∃ x,x=Qx.cells q:=⟨_,rfl⟩
  have hx1:cellsQ [q]=[x]:=by rw [hx];rfl
  have hcc:cellsQ (L.take i ++ q :: L.drop i)=(cellsQ L).take i ++ x :: (cellsQ L).drop i:=by rw [hx];simp [cellsQ,List.map_take,List.map_drop]
  clear hx1' hx
  have hxx:x.length=4 /\ ∀ u ∈ x,u.oneCell' = true:=⟨cellsQ_k [q] x (by rw [hx1];simp),cellsQ_one [q] x (by rw [hx1];simp)⟩
  rw [hx1] at hr
  obtain ⟨A,c,hv,_,hc1,hc2,hnw⟩:=hO.out.sl
  rw [hcl] at hv hc1
  cases A with
  | none=>
   exfalso
   rcases hO.out.2.2 with ⟨hv',h0⟩ | ⟨g,cap,cur,hv',_⟩
   ·omega
   ·rw [hv] at hv';injection hv' with e;cases e
  | some a=>
   obtain ⟨g,rfl⟩:∃ g,a=⟨g,0,none⟩:=by
    rcases hO.out.2.2 with ⟨hv',h0⟩ | ⟨g,cap,cur,hv',_⟩
    ·omega
    ·rw [hv] at hv';injection hv' with e;injection e with e;exact ⟨g,e⟩
   subst hv
   obtain ⟨S,hR,hS,_,hc3,hbg⟩:=OwnK.whole (l:=cellsQ L) hO.out
   rw [hcl] at hS
   obtain ⟨tA,cs,hA'⟩:=hA.out
   have hgl:=(hnw g 0 none rfl).2
   by_cases hc:L.length<c
   ·refine (insertQ_room base g L.length c i (cellsQ L) S x ad cv tA cs w hcl hbig hlt hR hS hbg hc (by unfold maxLen at hc3;omega) hc3 (cellsQ_one L) hxx hr hA' (hne.out g rfl)).mono ?_
    rintro e w' ⟨rfl,h1,h2,_⟩
    exact ⟨⟨_,rfl,by rw [hcc];exact h1,.inl rfl⟩,h2⟩
   ·have hce:c=L.length:=by omega
    subst hce
    have hS0:S=[]:=List.length_eq_zero_iff.1 (by omega)
    subst hS0
    rw [List.append_nil] at hR
    refine (insertQ_grow base g L.length i (cellsQ L) x ad cv w hcl hbig hlt hR hb hgl (Array.getElem?_eq_some_iff.1 hA').1 (cellsQ_one L) hxx hr).mono ?_
    rintro e w' ⟨c,rfl,h1,h2,_⟩
    exact ⟨⟨_,rfl,by rw [hcc];exact h1,.inr rfl⟩,h2.os,h2.tape,h2.output,h2.size,fun k hk hn=>h2.block k hk (by simp)⟩

theorem insertM_any (base:Nat) (v:Value) (L:List Mc) (q:Mc) (i:Nat) (ad:Addr) (cv:Nat) (w:World) (hbig:L.length<=1000) (hi:i<=L.length) (hO:Hid (OwnK w base 60 7 v (cellsM L))) (hr:Hid (RdK w 7 (some ad) (cellsM [q]))) (hA:Hid (∃ t cs,Bk w ad.block t cs)) (hne:Hid (∀ g,v.ownBlock=some g->ad.block ≠ g)) (hb:base<=w.heap.size) :
  Calls Tryz.prog 124 #[v,.int .i64 i,.slice (some ad) 1 cv] w fun e w'=>(∃ v',e = .returned v' /\ OwnK w' base 60 7 v' (cellsM (L.take i ++ q :: L.drop i))/\(v'.ownBlock=v.ownBlock ∨ v'.ownBlock=some w.heap.size))/\w.grownBy w' v.ownBlock:=by
 by_cases hil:i=L.length
 ·subst hil
  rw [List.take_length,List.drop_length]
  exact insertM_end base v L q ad cv L.length w (show _=_ from rfl) hbig hO hr hb
 ·have hlt:i<L.length:=by omega
  have hcl:(cellsM L).length=L.length:=cellsM_length L
  have hx1':cellsM [q]=[Mc.cells q]:=rfl
  obtain ⟨x,hx⟩:∃ x,x=Mc.cells q:=⟨_,rfl⟩
  have hx1:cellsM [q]=[x]:=by rw [hx];rfl
  have hcc:cellsM (L.take i ++ q :: L.drop i)=(cellsM L).take i ++ x :: (cellsM L).drop i:=by rw [hx];simp [cellsM,List.map_take,List.map_drop]
  clear hx1' hx
  have hxx:x.length=7 /\ ∀ u ∈ x,u.oneCell' = true:=⟨cellsM_k [q] x (by rw [hx1];simp),cellsM_one [q] x (by rw [hx1];simp)⟩
  rw [hx1] at hr
  obtain ⟨A,c,hv,_,hc1,hc2,hnw⟩:=hO.out.sl
  rw [hcl] at hv hc1
  cases A with
  | none=>
   exfalso
   rcases hO.out.2.2 with ⟨hv',h0⟩ | ⟨g,cap,cur,hv',_⟩
   ·omega
   ·rw [hv] at hv';injection hv' with e;cases e
  | some a=>
   obtain ⟨g,rfl⟩:∃ g,a=⟨g,0,none⟩:=by
    rcases hO.out.2.2 with ⟨hv',h0⟩ | ⟨g,cap,cur,hv',_⟩
    ·omega
    ·rw [hv] at hv';injection hv' with e;injection e with e;exact ⟨g,e⟩
   subst hv
   obtain ⟨S,hR,hS,_,hc3,hbg⟩:=OwnK.whole (l:=cellsM L) hO.out
   rw [hcl] at hS
   obtain ⟨tA,cs,hA'⟩:=hA.out
   have hgl:=(hnw g 0 none rfl).2
   by_cases hc:L.length<c
   ·refine (insertM_room base g L.length c i (cellsM L) S x ad cv tA cs w hcl hbig hlt hR hS hbg hc (by unfold maxLen at hc3;omega) hc3 (cellsM_one L) hxx hr hA' (hne.out g rfl)).mono ?_
    rintro e w' ⟨rfl,h1,h2,_⟩
    exact ⟨⟨_,rfl,by rw [hcc];exact h1,.inl rfl⟩,h2⟩
   ·have hce:c=L.length:=by omega
    subst hce
    have hS0:S=[]:=List.length_eq_zero_iff.1 (by omega)
    subst hS0
    rw [List.append_nil] at hR
    refine (insertM_grow base g L.length i (cellsM L) x ad cv w hcl hbig hlt hR hb hgl (Array.getElem?_eq_some_iff.1 hA').1 (cellsM_one L) hxx hr).mono ?_
    rintro e w' ⟨c,rfl,h1,h2,_⟩
    exact ⟨⟨_,rfl,by rw [hcc];exact h1,.inr rfl⟩,h2.os,h2.tape,h2.output,h2.size,fun k hk hn=>h2.block k hk (by simp)⟩
end
end Go.Proofs.YtccccbofcnmdiaaGreat
