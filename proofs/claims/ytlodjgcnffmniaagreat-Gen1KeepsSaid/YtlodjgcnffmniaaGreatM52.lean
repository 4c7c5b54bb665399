/- Lemmas that the law stands on. No condition. -/
import Derived.Test.YtlodjgcnffmniaaGreatM51
namespace Go.Proofs.YtlodjgcnffmniaaGreat
set_option linter.unusedSimpArgs false
set_option linter.unusedVariables false
set_option maxRecDepth 100000
set_option maxHeartbeats 51200000
section
open Go.RowKit
section
variable {w:World} {b:Nat} {A:Option Addr} {N cA:Nat} {B:Option Addr} {K cB:Nat} {C:Option Addr} {n cC:Nat} {S:Sg}
theorem Mut.setU (h:Mut w b A N cA B K cB C n cC S) {k:Nat} (hk:k<N) (u:Bool):∃ g,A=some ⟨g,0,none⟩/\b<=g/\(∃ v,w.cell? ⟨g,k * 7+5,none⟩=some v)/\w.frozen? ⟨g,k * 7+5,none⟩=false/\Mut (w.setCell ⟨g,k * 7+5,none⟩ (.bool u)) b A N cA B K cB C n cC S:=by
 obtain ⟨L,hL,hh,hO⟩:=h.M
 obtain ⟨LQ,hLQ,hOQ⟩:=h.Q
 obtain ⟨LJ,hLJ,hhJ,hOJ⟩:=h.J
 have hkl:k<(cellsM L).length:=by rw [cellsM_length,hL];exact hk
 obtain ⟨g,c,hv,hg1,hg2,_,_⟩:=hO.somes (by omega)
 injection hv with e1 e2 e3
 subst e1
 obtain ⟨q1,q2,q3⟩:=hO.put (j:=5) hkl (by omega) (.bool u)
 refine ⟨g,rfl,hg1,Option.isSome_iff_exists.1 q2,q3,⟨L.set k { L[k]'(by omega) with up:=u },by rw [List.length_set,hL],fun i h1 h2=>?_,?_⟩,⟨LQ,hLQ,hOQ.aside hO (by decide) rfl _⟩,⟨LJ,hLJ,hhJ,hOJ.aside hO (by decide) rfl _⟩,fun x hx=>(h.lM x hx).set _ _ _,fun x hx=>(h.lJ x hx).set _ _ _⟩
 ·rw [List.getElem_set]
  split
  ·rename_i e;subst e;exact hh k (by omega) h2
  ·exact hh i (by simpa using h1) h2
 ·have e:cellsM (L.set k { L[k]'(by omega) with up:=u })=(cellsM L).set k ((cellsM L)[k].set 5 (.bool u)):=by
   have hget:(cellsM L)[k]=(L[k]'(by omega)).cells:=by simp [cellsM]
   rw [hget];unfold cellsM;rw [List.map_set];rfl
  rw [e];exact q1
theorem Mut.setD (h:Mut w b A N cA B K cB C n cC S) {k:Nat} (hk:k<n) (u:ByteArray):∃ g,C=some ⟨g,0,none⟩/\b<=g/\(∃ v,w.cell? ⟨g,k * 13+11,none⟩=some v)/\w.frozen? ⟨g,k * 13+11,none⟩=false/\Mut (w.setCell ⟨g,k * 13+11,none⟩ (.string u)) b A N cA B K cB C n cC S:=by
 obtain ⟨L,hL,hh,hO⟩:=h.M
 obtain ⟨LQ,hLQ,hOQ⟩:=h.Q
 obtain ⟨LJ,hLJ,hhJ,hOJ⟩:=h.J
 have hkl:k<(cellsJ LJ).length:=by rw [cellsJ_length,hLJ];exact hk
 obtain ⟨g,c,hv,hg1,hg2,_,_⟩:=hOJ.somes (by omega)
 injection hv with e1 e2 e3
 subst e1
 obtain ⟨q1,q2,q3⟩:=hOJ.put (j:=11) hkl (by omega) (.string u)
 refine ⟨g,rfl,hg1,Option.isSome_iff_exists.1 q2,q3,⟨L,hL,hh,hO.aside hOJ (by decide) rfl _⟩,⟨LQ,hLQ,hOQ.aside hOJ (by decide) rfl _⟩,⟨LJ.set k { LJ[k]'(by omega) with nd:=u },by rw [List.length_set,hLJ],fun i h1 h2=>?_,?_⟩,fun x hx=>(h.lM x hx).set _ _ _,fun x hx=>(h.lJ x hx).set _ _ _⟩
 ·rw [List.getElem_set]
  split
  ·rename_i e;subst e;exact hhJ k (by omega) h2
  ·exact hhJ i (by simpa using h1) h2
 ·have e:cellsJ (LJ.set k { LJ[k]'(by omega) with nd:=u })=(cellsJ LJ).set k ((cellsJ LJ)[k].set 11 (.string u)):=by
   have hget:(cellsJ LJ)[k]=(LJ[k]'(by omega)).cells:=by simp [cellsJ]
   rw [hget];unfold cellsJ;rw [List.map_set];rfl
  rw [e];exact q1
end
end
end Go.Proofs.YtlodjgcnffmniaaGreat
