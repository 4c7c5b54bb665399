/- Lemmas that the law stands on. No condition. -/
import Derived.Test.YtccccbofcnmdiaaGreatM01
namespace Go.Proofs.YtccccbofcnmdiaaGreat
set_option linter.unusedSimpArgs false
set_option linter.unusedVariables false
set_option maxRecDepth 100000
set_option maxHeartbeats 51200000
section
open Go.RowKit
theorem any_at {l:List Lb} {p:Lb->Bool} {k:Nat} (hk:k<l.length) (hp:p l[k]=true):l.any p=true:=List.any_eq_true.2 ⟨l[k],List.getElem_mem hk,hp⟩
theorem any_takeL {l:List Lb} {p:Lb->Bool} {k:Nat} (h:k<l.length):(l.take (k+1)).any p=((l.take k).any p || p l[k]):=by
 rw [List.take_succ_eq_append_getElem h,List.any_append];simp
def retV (r:ByteArray × Bool):Ending:=.returned (.tuple #[.string r.1,.bool r.2])
def containsB (l:List Lb) (x:Lb):Bool:=l.any fun y=>lE y x
def hasB (l ws:List Lb):Bool:=ws.all (containsB l)

theorem contains_any (A:Option Addr) (n c:Nat) (l:List Lb) (a b:ByteArray) (w:World) (hn:Hid (n=l.length)) (hr:Hid (RdL w A l)) (hc:n<=c) (hc2:c<=9223372036854775807) :
  Calls Tryz.prog 144 #[.slice A n c,.agg #[.string a,.string b]] w fun e w'=>e = .returned (.bool (containsB l (a,b)))/\Below w.heap.size w w':=by
 go_enter Tryz.func144,Tryz.ntmps144
 go_wp2
 go_loopw [6,9] (fun _ i wr=>∃ k:Nat,k<=n/\i = .int .i64 k/\Hid ((l.take k).any (fun y=>lE y (a,b))=false)/\Below (w.heap.size+1) (w.alloc (.cells #[.string a,.string b] 70)) wr) (fun _ i wr=>n - (intOf i).toNat)
 case atStart=>exact ⟨0,Nat.zero_le _,rfl,rfl,Below.refl _ _⟩
 case round=>
  obtain ⟨k,hk,rfl,HA,hb0⟩:=hrel
  have hb:Below w.heap.size w wr:=((Below.refl _ _).alloc (Nat.le_refl _) _).trans (hb0.mono (by omega))
  have hsz:w.heap.size<wr.heap.size:=by have:=hb0.size;simp at this;omega
  have k1:wr.cell? ⟨w.heap.size,0,none⟩=some (.string a):=(hb0.cell (p:=⟨w.heap.size,0,none⟩) (by simp)).trans (by simp)
  have k2:wr.cell? ⟨w.heap.size,1,none⟩=some (.string b):=(hb0.cell (p:=⟨w.heap.size,1,none⟩) (by simp)).trans (by simp)
  by_cases hlt:k<n
  ·have hl:k<l.length:=by have:=hn.out;omega
   obtain ⟨g,o,rfl,hg,h1,h2⟩:=(hr.out.later hb).at hl
   by_cases hE:lE l[k] (a,b)=true
   ·have HV:Hid (containsB l (a,b)=true):=any_at hl hE
    obtain ⟨e1,e2⟩:=lE_yes hE
    simp only [] at e1 e2
    clear hE HA
    go_wp2
    go_ret
    exact ⟨ret_bool' HV.out.symm,(by (repeat' (first | (with_reducible exact Below.refl _ _) | (with_reducible refine bdrewN ?_ _) | (with_reducible refine Below.drew ?_) | (with_reducible refine Below.setCell ?_ ?_ _) | (with_reducible refine Below.alloc ?_ ?_ _) | (with_reducible refine Below.trans ?_ (Below.mono hb ?_)) | (with_reducible exact Nat.le_refl _) | (with_reducible assumption) | omega | (simp only [World.size_alloc,World.size_setCell,World.size_drew,sz_drewN];omega))))⟩
   ·have HS:Hid ((l.take (k+1)).any (fun y=>lE y (a,b))=false):=by
     show _=_
     rw [any_takeL hl,HA.out];simpa using hE
    have hE':=lE_no (by simpa using hE)
    simp only [] at hE'
    clear hE HA
    rcases hE' with e1 | ⟨e1,e2⟩
    all_goals
     go_wp2
     go_round
     case rel=>exact ⟨k+1,by omega,by go_num,HS,(by (repeat' (first | (with_reducible exact Below.refl _ _) | (with_reducible refine bdrewN ?_ _) | (with_reducible refine Below.drew ?_) | (with_reducible refine Below.setCell ?_ ?_ _) | (with_reducible refine Below.alloc ?_ ?_ _) | (with_reducible refine Below.trans ?_ (Below.mono hb0 ?_)) | (with_reducible exact Nat.le_refl _) | (with_reducible assumption) | omega | (simp only [World.size_alloc,World.size_setCell,World.size_drew,sz_drewN];omega))))⟩
     case measure=>simp [intOf];omega
  ·have HV:Hid (containsB l (a,b)=false):=by have:=HA.out;rwa [List.take_of_length_le (by have:=hn.out;omega)] at this
   go_wp2
   go_ret
   exact ⟨ret_bool' HV.out.symm,(by (repeat' (first | (with_reducible exact Below.refl _ _) | (with_reducible refine bdrewN ?_ _) | (with_reducible refine Below.drew ?_) | (with_reducible refine Below.setCell ?_ ?_ _) | (with_reducible refine Below.alloc ?_ ?_ _) | (with_reducible refine Below.trans ?_ (Below.mono hb ?_)) | (with_reducible exact Nat.le_refl _) | (with_reducible assumption) | omega | (simp only [World.size_alloc,World.size_setCell,World.size_drew,sz_drewN];omega))))⟩

theorem has_any (A B:Option Addr) (n c m d:Nat) (l r:List Lb) (w:World) (hn:Hid (n=l.length)) (hm:Hid (m=r.length)) (hr:Hid (RdL w A l)) (hq:Hid (RdL w B r)) (hc:n<=c) (hc2:c<=9223372036854775807) (hd:m<=d) (hd2:d<=9223372036854775807) :
  Calls Tryz.prog 111 #[.slice A n c,.slice B m d] w fun e w'=>e = .returned (.bool (hasB l r))/\Below w.heap.size w w':=by
 go_enter Tryz.func111,Tryz.ntmps111
 go_wp2
 go_loopw [6,9] (fun _ i wr=>∃ k:Nat,k<=m/\i = .int .i64 k/\Hid ((r.take k).all (containsB l)=true)/\Below w.heap.size w wr) (fun _ i wr=>m - (intOf i).toNat)
 case atStart=>exact ⟨0,Nat.zero_le _,rfl,rfl,Below.refl _ _⟩
 case round=>
  obtain ⟨k,hk,rfl,HA,hb⟩:=hrel
  have hsz:=hb.size
  by_cases hlt:k<m
  ·have hl:k<r.length:=by have:=hm.out;omega
   obtain ⟨g,o,rfl,hg,h1,h2⟩:=(hq.out.later hb).at hl
   have hcon:=fun W (h:RdL W A l)=>contains_any A n c l r[k].1 r[k].2 W hn h hc hc2
   by_cases hE:containsB l r[k]=true
   ·have HS:Hid ((r.take (k+1)).all (containsB l)=true):=by show _=_;rw [all_takeL hl,HA.out,hE];rfl
    rw [show containsB l (r[k].1,r[k].2)=true from hE] at hcon
    have HC:Hid _:=hcon
    clear hE HA hcon
    go_wp2_with fail
    refine (HC.out _ (hr.out.later (by (repeat' (first | (with_reducible exact Below.refl _ _) | (with_reducible refine bdrewN ?_ _) | (with_reducible refine Below.drew ?_) | (with_reducible refine Below.setCell ?_ ?_ _) | (with_reducible refine Below.alloc ?_ ?_ _) | (with_reducible refine Below.trans ?_ (Below.mono hb ?_)) | (with_reducible exact Nat.le_refl _) | (with_reducible assumption) | omega | (simp only [World.size_alloc,World.size_setCell,World.size_drew,sz_drewN];omega)))))).mono ?_;rintro e w1 ⟨rfl,hb1⟩
    go_wp2
    go_round
    case rel=>exact ⟨k+1,by omega,by go_num,HS,(by (repeat' (first | (with_reducible exact Below.refl _ _) | (with_reducible refine bdrewN ?_ _) | (with_reducible refine Below.drew ?_) | (with_reducible refine Below.setCell ?_ ?_ _) | (with_reducible refine Below.alloc ?_ ?_ _) | (with_reducible refine Below.trans ?_ (Below.mono hb1 ?_)) | (with_reducible refine Below.trans ?_ (Below.mono hb ?_)) | (with_reducible exact Nat.le_refl _) | (with_reducible assumption) | omega | (simp only [World.size_alloc,World.size_setCell,World.size_drew,sz_drewN];omega))))⟩
    case measure=>simp [intOf];omega
   ·have hE':containsB l r[k]=false:=by simpa using hE
    have HV:Hid (hasB l r=false):=all_take_falseL hl hE'
    rw [show containsB l (r[k].1,r[k].2)=false from hE'] at hcon
    have HC:Hid _:=hcon
    clear hE hE' HA hcon
    go_wp2_with fail
    refine (HC.out _ (hr.out.later (by (repeat' (first | (with_reducible exact Below.refl _ _) | (with_reducible refine bdrewN ?_ _) | (with_reducible refine Below.drew ?_) | (with_reducible refine Below.setCell ?_ ?_ _) | (with_reducible refine Below.alloc ?_ ?_ _) | (with_reducible refine Below.trans ?_ (Below.mono hb ?_)) | (with_reducible exact Nat.le_refl _) | (with_reducible assumption) | omega | (simp only [World.size_alloc,World.size_setCell,World.size_drew,sz_drewN];omega)))))).mono ?_;rintro e w1 ⟨rfl,hb1⟩
    go_wp2
    go_ret
    exact ⟨ret_bool' HV.out.symm,(by (repeat' (first | (with_reducible exact Below.refl _ _) | (with_reducible refine bdrewN ?_ _) | (with_reducible refine Below.drew ?_) | (with_reducible refine Below.setCell ?_ ?_ _) | (with_reducible refine Below.alloc ?_ ?_ _) | (with_reducible refine Below.trans ?_ (Below.mono hb1 ?_)) | (with_reducible refine Below.trans ?_ (Below.mono hb ?_)) | (with_reducible exact Nat.le_refl _) | (with_reducible assumption) | omega | (simp only [World.size_alloc,World.size_setCell,World.size_drew,sz_drewN];omega))))⟩
  ·have HV:Hid (hasB l r=true):=by have:=HA.out;rwa [List.take_of_length_le (by have:=hm.out;omega)] at this
   go_wp2
   go_ret
   exact ⟨ret_bool' HV.out.symm,(by (repeat' (first | (with_reducible exact Below.refl _ _) | (with_reducible refine bdrewN ?_ _) | (with_reducible refine Below.drew ?_) | (with_reducible refine Below.setCell ?_ ?_ _) | (with_reducible refine Below.alloc ?_ ?_ _) | (with_reducible refine Below.trans ?_ (Below.mono hb ?_)) | (with_reducible exact Nat.le_refl _) | (with_reducible assumption) | omega | (simp only [World.size_alloc,World.size_setCell,World.size_drew,sz_drewN];omega))))⟩
end
section
open Go.RowKit
def okI (c:Int):Bool:=decide (97<=c/\c<=122 ∨ 48<=c/\c<=57 ∨ c=45)
def nameL (l:List UInt8):Bool:=decide (1<=l.length) && decide (l.length<=16) && !(l.head? == some 45) && l.all fun c=>okI c.toNat
def nameB (s:ByteArray):Bool:=nameL s.data.toList
theorem ret_bool {a b:Bool} (h:a=b):Ending.returned (.bool a) = .returned (.bool b):=by rw [h]

theorem inName_any (c:Int) (w:World):Calls Tryz.prog 121 #[.int .u8 c] w fun e w'=>e = .returned (.bool (okI c))/\w=w':=by
  obtain ⟨r,hr⟩:∃ r,r=okI c:=⟨_,rfl⟩
  rw [<- hr]
  unfold okI at hr
  by_cases h1:97<=c <;> by_cases h2:c<=122 <;> by_cases h3:48<=c <;> by_cases h4:c<=57 <;> by_cases h5:c=45
  all_goals try (have hb5:(c == 45)=false:=by simpa using h5)
  all_goals first
    | (exfalso;omega)
    | (have hr':r=true:=by rw [hr];exact decide_eq_true (by omega)
       clear hr;subst hr'
       go_enter Tryz.func121,Tryz.ntmps121
       go_wp2
       go_ret
       exact ⟨rfl,rfl⟩)
    | (have hr':r=false:=by rw [hr];exact decide_eq_false (by omega)
       clear hr;subst hr'
       go_enter Tryz.func121,Tryz.ntmps121
       go_wp2
       go_ret
       exact ⟨rfl,rfl⟩)
theorem nameL_long {l:List UInt8} (h:16<l.length):nameL l=false:=by
 unfold nameL
 rw [show decide (l.length<=16)=false from decide_eq_false (by omega)];simp
theorem nameL_mk {l:List UInt8} {c:UInt8} (h1:l.length<=16) (h2:l[0]? = some c) (h3:c ≠ 45):nameL l=l.all fun c=>okI c.toNat:=by
 cases l with
 | nil=>simp at h2
 | cons d l=>
  simp at h2;subst h2
  unfold nameL
  simp at h1
  simp [h1,h3]
theorem nameL_dash {l:List UInt8} (h2:l[0]? = some 45):nameL l=false:=by
 cases l with
 | nil=>simp at h2
 | cons d l=>simp at h2;subst h2;unfold nameL;simp
theorem all_take {l:List UInt8} {p:UInt8->Bool} {k:Nat} (h:k<l.length):(l.take (k+1)).all p=((l.take k).all p && p l[k]):=by
 rw [List.take_succ_eq_append_getElem h,List.all_append];simp
theorem all_take_false {l:List UInt8} {p:UInt8->Bool} {k:Nat} (h:k<l.length) (hp:p l[k]=false):l.all p=false:=by
 rw [List.all_eq_false]
 exact ⟨l[k],List.getElem_mem h,by simp [hp]⟩
theorem strN_at (s:ByteArray) (k:Nat) (h:k<s.size):s.data.toList[k]? = some s[k]:=by
 rw [List.getElem?_eq_getElem (by simpa using h)];rfl
theorem u8_dash (c:UInt8):(c=45) ↔ ((c.toNat:Int)=45):=by
 constructor
 ·rintro rfl;rfl
 ·intro h;exact UInt8.toNat_inj.1 (by
   have:c.toNat=45:=by omega
   rw [this];rfl)

theorem name_any (s:ByteArray) (w:World) (hs:s.size<=9223372036854775807):Calls Tryz.prog 81 #[.string s] w fun e w'=>e = .returned (.bool (nameB s))/\w=w':=by
 by_cases h0:s.size=0
 ·have e:s=⟨#[]⟩:=by cases s;congr;exact Array.eq_empty_of_size_eq_zero h0
  have hr:nameB s=false:=by rw [e];rfl
  rw [hr,e]
  go_enter Tryz.func81,Tryz.ntmps81
  go_wp2
  go_ret
  exact ⟨rfl,rfl⟩
 have hpos:0<s.size:=by omega
 have hne:(s.toList.isEmpty)=false:=by
  rw [Bool.eq_false_iff];intro hc
  rw [List.isEmpty_iff] at hc
  have:s.toList.length=s.size:=by rw [ByteArray.toList_eq];simp
  rw [hc] at this;simp at this;omega
 have hne2:¬ s.toList=[]:=by intro hc;rw [hc] at hne;simp at hne
 by_cases h16:16<s.size
 ·have hr:nameB s=false:=nameL_long (by simpa using h16)
  rw [hr]
  go_enter Tryz.func81,Tryz.ntmps81
  go_wp2
  go_ret
  exact ⟨rfl,rfl⟩
 by_cases hd:(s[0].toNat:Int)=45
 ·have hr:nameB s=false:=nameL_dash (by rw [strN_at s 0 hpos];rw [(u8_dash _).2 hd])
  rw [hr]
  have hd':((s[0].toNat:Int) == 45)=true:=by simpa using hd
  go_enter Tryz.func81,Tryz.ntmps81
  go_wp2
  go_ret
  exact ⟨rfl,rfl⟩
 have hd':((s[0].toNat:Int) == 45)=false:=by simpa using hd
 have HR:Hid (nameB s=s.data.toList.all fun c=>okI c.toNat):=nameL_mk (by simpa using h16) (strN_at s 0 hpos) (fun h=>hd ((u8_dash _).1 h))
 clear hd
 go_enter Tryz.func81,Tryz.ntmps81
 go_wp2
 go_loop [3,18] (fun _ i=>∃ k:Nat,k<=s.size/\i = .int .i64 k/\Hid ((s.data.toList.take k).all (fun c=>okI c.toNat)=true)) (fun _ i=>s.size - (intOf i).toNat)
 case atStart=>exact ⟨0,Nat.zero_le _,rfl,rfl⟩
 case round=>
  obtain ⟨k,hk,rfl,HA⟩:=hrel
  by_cases hlt:k<s.size
  ·have HS:Hid ((s.data.toList.take (k+1)).all (fun c=>okI c.toNat)=((s.data.toList.take k).all (fun c=>okI c.toNat) && okI s[k].toNat)):=all_take (by simpa using hlt)
   have HF:Hid (okI s[k].toNat=false->s.data.toList.all (fun c=>okI c.toNat)=false):=fun h=>all_take_false (k:=k) (by simpa using hlt) h
   by_cases hok:okI s[k].toNat=true
   ·have hcon:=fun w=>inName_any s[k].toNat w
    rw [hok] at hcon
    have HK:Hid (okI s[k].toNat=true):=hok
    clear hok HF
    go_wp2_with (go_at_call 121;refine (hcon _).mono ?_;rintro e w' ⟨rfl,rfl⟩)
    go_round
    case rel=>exact ⟨k+1,by omega,by go_num,(show _=_ by rw [HS.out,HA.out,HK.out];rfl)⟩
    case measure=>simp [intOf];omega
   ·have hok':okI s[k].toNat=false:=by simpa using hok
    have hcon:=fun w=>inName_any s[k].toNat w
    rw [hok'] at hcon
    have HR2:Hid (nameB s=false):=by show _=_;rw [HR.out];exact HF.out hok'
    clear hok hok' HF HS
    go_wp2_with (go_at_call 121;refine (hcon _).mono ?_;rintro e w' ⟨rfl,rfl⟩)
    go_ret
    exact ⟨ret_bool HR2.out.symm,rfl⟩
  ·have:k=s.size:=by omega
   subst this
   have HR2:Hid (nameB s=true):=by
    show _=_
    rw [HR.out,<- HA.out,List.take_of_length_le (by simp)]
   go_wp2
   go_ret
   exact ⟨ret_bool HR2.out.symm,rfl⟩
end
section
open Go.RowKit
def labAt (l:List Lb) (i:Nat):Bool:=nameB (l.getD i default).1 && nameB (l.getD i default).2 && (decide (i=0) || sL (l.getD (i - 1) default).1 (l.getD i default).1)
def labelsB (l:List Lb):Bool:=decide (l.length<=4) && (List.range l.length).all (labAt l)
theorem labAt_lt {l:List Lb} {i:Nat} (h:i<l.length):labAt l i=(nameB l[i].1 && nameB l[i].2 && (decide (i=0) || sL (l.getD (i - 1) default).1 l[i].1)):=by
 unfold labAt
 rw [show l.getD i default=l[i] by simp [List.getD,List.getElem?_eq_getElem h]]
theorem labAt_succ {l:List Lb} {i:Nat} (h:i+1<l.length):labAt l (i+1)=(nameB l[i+1].1 && nameB l[i+1].2 && sL l[i].1 l[i+1].1):=by
 rw [labAt_lt h,Nat.add_sub_cancel,show l.getD i default=l[i] by simp [List.getD,List.getElem?_eq_getElem (show i<l.length by omega)]];simp
theorem range_all {p:Nat->Bool} {k:Nat}:(List.range (k+1)).all p=((List.range k).all p && p k):=by
 rw [List.range_succ,List.all_append];simp
theorem labelsB_bad {l:List Lb} {k:Nat} (h:k<l.length) (hp:labAt l k=false):labelsB l=false:=by
 unfold labelsB
 rw [Bool.and_eq_false_iff];right
 rw [List.all_eq_false]
 exact ⟨k,List.mem_range.2 h,by simp [hp]⟩
theorem labelsB_long {l:List Lb} (h:4<l.length):labelsB l=false:=by
 unfold labelsB;rw [show decide (l.length<=4)=false from decide_eq_false (by omega)];rfl
theorem labelsB_good {l:List Lb} (h:l.length<=4) (h2:(List.range l.length).all (labAt l)=true):labelsB l=true:=by
 unfold labelsB;rw [h2,decide_eq_true h];rfl


theorem labels_any (A:Option Addr) (n c:Nat) (l:List Lb) (w:World) (hn:Hid (n=l.length)) (hr:Hid (RdL w A l)) (hz:Hid (Sz l)) (hc:n<=c) (hc2:c<=9223372036854775807) :
  Calls Tryz.prog 118 #[.slice A n c] w fun e w'=>e = .returned (.bool (labelsB l))/\Below w.heap.size w w':=by
 by_cases h4:4<n
 ·have hr:labelsB l=false:=labelsB_long (by have:=hn.out;omega)
  rw [hr]
  go_enter Tryz.func118,Tryz.ntmps118
  go_wp2
  go_ret
  exact ⟨rfl,Below.refl _ _⟩
 have h4':n<=4:=by omega
 go_enter Tryz.func118,Tryz.ntmps118
 go_wp2
 go_loopw [3,4,10] (fun _ _ i wr=>∃ k:Nat,k<=n/\i = .int .i64 k/\Hid ((List.range k).all (labAt l)=true)/\Below w.heap.size w wr) (fun _ _ i wr=>n - (intOf i).toNat)
 case atStart=>exact ⟨0,Nat.zero_le _,rfl,rfl,Below.refl _ _⟩
 case round=>
  obtain ⟨k,hk,rfl,HA,hb⟩:=hrel
  have hsz:=hb.size
  by_cases hlt:k<n
  ·have hl:k<l.length:=by have:=hn.out;omega
   obtain ⟨g,o,rfl,hg,h1,h2⟩:=(hr.out.later hb).at hl
   obtain ⟨z1,z2⟩:=hz.out.at hl
   have hL:=labAt_lt hl
   have hcon1:=fun w=>name_any l[k].1 w (by omega)
   have hcon2:=fun w=>name_any l[k].2 w (by omega)
   by_cases hN1:nameB l[k].1=true
   ·rw [hN1] at hcon1
    have HC1:Hid _:=hcon1
    clear hcon1
    by_cases hN2:nameB l[k].2=true
    ·rw [hN2] at hcon2
     have HC2:Hid _:=hcon2
     clear hcon2
     by_cases hpos:0<k
     case neg=>
      have HS:Hid ((List.range (k+1)).all (labAt l)=true):=by show _=_;rw [range_all,HA.out,hL,hN1,hN2,decide_eq_true (show k=0 by omega)];rfl
      have hp0:decide ((0:Int)<(k:Int))=false:=decide_eq_false (by omega)
      clear hL hN1 hN2 HA
      go_wp2_with fail
      refine (HC1.out _).mono ?_;rintro e w1 ⟨rfl,rfl⟩
      go_wp2_with fail
      refine (HC2.out _).mono ?_;rintro e w1 ⟨rfl,rfl⟩
      go_wp2_with fail
      go_quiet (fail)
      go_wp2
      go_round
      case rel=>exact ⟨k+1,by omega,by go_num,HS,(by (repeat' (first | (with_reducible exact Below.refl _ _) | (with_reducible refine bdrewN ?_ _) | (with_reducible refine Below.drew ?_) | (with_reducible refine Below.setCell ?_ ?_ _) | (with_reducible refine Below.alloc ?_ ?_ _) | (with_reducible refine Below.trans ?_ (Below.mono hb ?_)) | (with_reducible exact Nat.le_refl _) | (with_reducible assumption) | omega | (simp only [World.size_alloc,World.size_setCell,World.size_drew,sz_drewN];omega))))⟩
      case measure=>simp [intOf];omega
     case pos=>
      obtain ⟨j,rfl⟩:∃ j,k=j+1:=⟨k - 1,by omega⟩
      have hL2:=labAt_succ hl
      obtain ⟨g',o',ha,hg',h1',h2'⟩:=(hr.out.later hb).at (show j<l.length by omega)
      injection ha with ha;injection ha with ha1 ha2;subst ha1 ha2
      have hwp:IntKind.i64.wrap (j:Int)=(j:Int):=by rw [IntKind.wrap_i64];omega
      have jn:(j:Int)<(n:Int):=by omega
      have jt:((j:Int)).toNat=j:=by omega
      by_cases hS:sL l[j].1 l[j+1].1=true
      ·have HS:Hid ((List.range (j+1+1)).all (labAt l)=true):=by show _=_;rw [range_all,HA.out,hL2,hN1,hN2,hS];rfl
       have e1:Op.bytesLess l[j].1.toList l[j+1].1.toList=true:=hS
       clear hL hN1 hN2 HA hL2 hS
       go_wp2_with fail
       refine (HC1.out _).mono ?_;rintro e w1 ⟨rfl,rfl⟩
       go_wp2_with fail
       refine (HC2.out _).mono ?_;rintro e w1 ⟨rfl,rfl⟩
       go_wp2_with fail
       go_quiet (fail)
       go_wp2
       go_round
       case rel=>exact ⟨j+1+1,by omega,by go_num,HS,(by (repeat' (first | (with_reducible exact Below.refl _ _) | (with_reducible refine bdrewN ?_ _) | (with_reducible refine Below.drew ?_) | (with_reducible refine Below.setCell ?_ ?_ _) | (with_reducible refine Below.alloc ?_ ?_ _) | (with_reducible refine Below.trans ?_ (Below.mono hb ?_)) | (with_reducible exact Nat.le_refl _) | (with_reducible assumption) | omega | (simp only [World.size_alloc,World.size_setCell,World.size_drew,sz_drewN];omega))))⟩
       case measure=>simp [intOf];omega
      ·have hS':sL l[j].1 l[j+1].1=false:=by simpa using hS
       have HV:Hid (labelsB l=false):=labelsB_bad hl (by rw [hL2,hS'];simp)
       have e1:Op.bytesLess l[j].1.toList l[j+1].1.toList=false:=hS'
       clear hL hN1 hN2 HA hL2 hS hS'
       go_wp2_with fail
       refine (HC1.out _).mono ?_;rintro e w1 ⟨rfl,rfl⟩
       go_wp2_with fail
       refine (HC2.out _).mono ?_;rintro e w1 ⟨rfl,rfl⟩
       go_wp2_with fail
       go_quiet (fail)
       go_wp2
       go_ret
       exact ⟨ret_bool' HV.out.symm,(by (repeat' (first | (with_reducible exact Below.refl _ _) | (with_reducible refine bdrewN ?_ _) | (with_reducible refine Below.drew ?_) | (with_reducible refine Below.setCell ?_ ?_ _) | (with_reducible refine Below.alloc ?_ ?_ _) | (with_reducible refine Below.trans ?_ (Below.mono hb ?_)) | (with_reducible exact Nat.le_refl _) | (with_reducible assumption) | omega | (simp only [World.size_alloc,World.size_setCell,World.size_drew,sz_drewN];omega))))⟩
    ·have hN2':nameB l[k].2=false:=by simpa using hN2
     have HV:Hid (labelsB l=false):=labelsB_bad hl (by rw [hL,hN2'];simp)
     rw [hN2'] at hcon2
     have HC2:Hid _:=hcon2
     clear hL hN1 hN2 hN2' HA hcon2
     go_wp2_with fail
     refine (HC1.out _).mono ?_;rintro e w1 ⟨rfl,rfl⟩
     go_wp2_with fail
     refine (HC2.out _).mono ?_;rintro e w1 ⟨rfl,rfl⟩
     go_wp2
     go_ret
     exact ⟨ret_bool' HV.out.symm,(by (repeat' (first | (with_reducible exact Below.refl _ _) | (with_reducible refine bdrewN ?_ _) | (with_reducible refine Below.drew ?_) | (with_reducible refine Below.setCell ?_ ?_ _) | (with_reducible refine Below.alloc ?_ ?_ _) | (with_reducible refine Below.trans ?_ (Below.mono hb ?_)) | (with_reducible exact Nat.le_refl _) | (with_reducible assumption) | omega | (simp only [World.size_alloc,World.size_setCell,World.size_drew,sz_drewN];omega))))⟩
   ·have hN1':nameB l[k].1=false:=by simpa using hN1
    have HV:Hid (labelsB l=false):=labelsB_bad hl (by rw [hL,hN1'];simp)
    rw [hN1'] at hcon1
    have HC1:Hid _:=hcon1
    clear hL hN1 hN1' HA hcon1 hcon2
    go_wp2_with fail
    refine (HC1.out _).mono ?_;rintro e w1 ⟨rfl,rfl⟩
    go_wp2
    go_ret
    exact ⟨ret_bool' HV.out.symm,(by (repeat' (first | (with_reducible exact Below.refl _ _) | (with_reducible refine bdrewN ?_ _) | (with_reducible refine Below.drew ?_) | (with_reducible refine Below.setCell ?_ ?_ _) | (with_reducible refine Below.alloc ?_ ?_ _) | (with_reducible refine Below.trans ?_ (Below.mono hb ?_)) | (with_reducible exact Nat.le_refl _) | (with_reducible assumption) | omega | (simp only [World.size_alloc,World.size_setCell,World.size_drew,sz_drewN];omega))))⟩
  ·have HV:Hid (labelsB l=true):=labelsB_good (by have:=hn.out;omega) (by have:=HA.out;rwa [show k=l.length by have:=hn.out;omega] at this)
   go_wp2
   go_ret
   exact ⟨ret_bool' HV.out.symm,(by (repeat' (first | (with_reducible exact Below.refl _ _) | (with_reducible refine bdrewN ?_ _) | (with_reducible refine Below.drew ?_) | (with_reducible refine Below.setCell ?_ ?_ _) | (with_reducible refine Below.alloc ?_ ?_ _) | (with_reducible refine Below.trans ?_ (Below.mono hb ?_)) | (with_reducible exact Nat.le_refl _) | (with_reducible assumption) | omega | (simp only [World.size_alloc,World.size_setCell,World.size_drew,sz_drewN];omega))))⟩
end
end Go.Proofs.YtccccbofcnmdiaaGreat
