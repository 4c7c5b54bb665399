/- Lemmas that the law stands on. No condition. -/
import Derived.Test.YtccccbofcnmdiaaGreatM18
namespace Go.Proofs.YtccccbofcnmdiaaGreat
set_option linter.unusedSimpArgs false
set_option linter.unusedVariables false
set_option maxRecDepth 100000
set_option maxHeartbeats 51200000
section
open Go.RowKit

theorem sub_arg1 (a b c d e f:Int) (w:World) (h:rB a b c=false) :
  Calls Tryz.prog 64 #[.agg #[.int .i64 a,.int .i64 b,.int .i64 c],.agg #[.int .i64 d,.int .i64 e,.int .i64 f]] w fun e w'=>e = .returned (.tuple #[.agg #[.int .i64 0,.int .i64 0,.int .i64 0],.int .i64 1])/\Below w.heap.size w w':=by
 go_enter Tryz.func64,Tryz.ntmps64
 go_wp2_with (go_at_call 109;refine (right_any _ _ _ _).mono ?_;rintro e w1 ⟨rfl,hb1⟩;obtain ⟨hc1,hf1⟩:=bcell hb1;have hz1a:w.heap.size<w1.heap.size:=(by have h:=hb1.size;(try simp only [World.size_alloc,World.size_setCell,World.size_drew] at h);omega);have hz1b:w.heap.size+1<w1.heap.size:=(by have h:=hb1.size;(try simp only [World.size_alloc,World.size_setCell,World.size_drew] at h);omega);have hz1c:w.heap.size+1+1<w1.heap.size:=(by have h:=hb1.size;(try simp only [World.size_alloc,World.size_setCell,World.size_drew] at h);omega))
 exact bodyPost_ret (v:=.tuple #[.agg #[.int .i64 0,.int .i64 0,.int .i64 0],.int .i64 1]) (by simp [results,Tryz.results64,go_sem,hc1,hz1a,hz1b,hz1c]) rfl ⟨rfl,by (repeat' (first | (with_reducible exact Below.refl _ _) | (with_reducible refine Below.drew ?_) | (with_reducible refine Below.setCell ?_ ?_ _) | (with_reducible refine Below.alloc ?_ ?_ _) | (with_reducible refine Below.trans ?_ (Below.mono hb1 ?_)) | go_size))⟩

theorem sub_arg2 (a b c d e f:Int) (w:World) (h:rB a b c=true) (h2:rB d e f=false) :
  Calls Tryz.prog 64 #[.agg #[.int .i64 a,.int .i64 b,.int .i64 c],.agg #[.int .i64 d,.int .i64 e,.int .i64 f]] w fun e w'=>e = .returned (.tuple #[.agg #[.int .i64 0,.int .i64 0,.int .i64 0],.int .i64 1])/\Below w.heap.size w w':=by
 go_enter Tryz.func64,Tryz.ntmps64
 go_wp2_with fail
 refine (right_any _ _ _ _).mono ?_;rintro r w1 ⟨rfl,hb1⟩;obtain ⟨hc1,hf1⟩:=bcell hb1;have hz1a:w.heap.size<w1.heap.size:=(by have h:=hb1.size;(try simp only [World.size_alloc,World.size_setCell,World.size_drew] at h);omega);have hz1b:w.heap.size+1<w1.heap.size:=(by have h:=hb1.size;(try simp only [World.size_alloc,World.size_setCell,World.size_drew] at h);omega);have hz1c:w.heap.size+1+1<w1.heap.size:=(by have h:=hb1.size;(try simp only [World.size_alloc,World.size_setCell,World.size_drew] at h);omega)
 go_wp2_with fail
 refine (right_any _ _ _ _).mono ?_;rintro r w2 ⟨rfl,hb2⟩;obtain ⟨hc2,hf2⟩:=bcell hb2;have hz2a:w.heap.size<w2.heap.size:=(by have h:=hb2.size;(try simp only [World.size_alloc,World.size_setCell,World.size_drew] at h);omega);have hz2b:w.heap.size+1<w2.heap.size:=(by have h:=hb2.size;(try simp only [World.size_alloc,World.size_setCell,World.size_drew] at h);omega);have hz2c:w.heap.size+1+1<w2.heap.size:=(by have h:=hb2.size;(try simp only [World.size_alloc,World.size_setCell,World.size_drew] at h);omega)
 go_wp2
 exact bodyPost_ret (v:=.tuple #[.agg #[.int .i64 0,.int .i64 0,.int .i64 0],.int .i64 1]) (by simp [results,Tryz.results64,go_sem,hc1,hc2,hz1a,hz1b,hz1c,hz2a,hz2b,hz2c]) rfl ⟨rfl,by (repeat' (first | (with_reducible exact Below.refl _ _) | (with_reducible refine Below.drew ?_) | (with_reducible refine Below.setCell ?_ ?_ _) | (with_reducible refine Below.alloc ?_ ?_ _) | (with_reducible refine Below.trans ?_ (Below.mono hb1 ?_)) | (with_reducible refine Below.trans ?_ (Below.mono hb2 ?_)) | go_size))⟩

theorem sub_ok (a b c d e f:Int) (w:World) (h:rB a b c=true) (h2:rB d e f=true) (h3:rB (a - d) (b - e) (c - f)=true) :
  Calls Tryz.prog 64 #[.agg #[.int .i64 a,.int .i64 b,.int .i64 c],.agg #[.int .i64 d,.int .i64 e,.int .i64 f]] w fun r w'=>r = .returned (.tuple #[.agg #[.int .i64 (a - d),.int .i64 (b - e),.int .i64 (c - f)],.int .i64 0])/\Below w.heap.size w w':=by
 have i0:∀ w,(Instr.index 40 (.agg #[.int .i64 d,.int .i64 e,.int .i64 f]) (.int .i64 0)).run Tryz.prog w = .ok (.int .i64 d) w:=fun _=>by kernel_rfl
 have i1:∀ w,(Instr.index 40 (.agg #[.int .i64 d,.int .i64 e,.int .i64 f]) (.int .i64 1)).run Tryz.prog w = .ok (.int .i64 e) w:=fun _=>by kernel_rfl
 have i2:∀ w,(Instr.index 40 (.agg #[.int .i64 d,.int .i64 e,.int .i64 f]) (.int .i64 2)).run Tryz.prog w = .ok (.int .i64 f) w:=fun _=>by kernel_rfl
 obtain ⟨a0,a1,b0,b1,c0,c1⟩:=rB_bd h
 obtain ⟨d0,d1,e0,e1,f0,f1⟩:=rB_bd h2
 have H3:=Lib.hid h3;clear h3
 go_enter Tryz.func64,Tryz.ntmps64
 go_wp2_with fail
 refine (right_any _ _ _ _).mono ?_;rintro r w1 ⟨rfl,hb1⟩;have hz1a:w.heap.size<w1.heap.size:=(by have h:=hb1.size;(try simp only [World.size_alloc,World.size_setCell,World.size_drew] at h);omega);have hz1b:w.heap.size+1<w1.heap.size:=(by have h:=hb1.size;(try simp only [World.size_alloc,World.size_setCell,World.size_drew] at h);omega);have hz1c:w.heap.size+1+1<w1.heap.size:=(by have h:=hb1.size;(try simp only [World.size_alloc,World.size_setCell,World.size_drew] at h);omega);have k1_00:w1.cell? ⟨w.heap.size,0,none⟩=some (.int .i64 a):=(hb1.cell (p:=⟨w.heap.size,0,none⟩) (by go_size)).trans (by go_cell);have m1_00:w1.frozen? ⟨w.heap.size,0,none⟩=false:=(hb1.frozen (p:=⟨w.heap.size,0,none⟩) (by go_size)).trans (by first | assumption | (go_simp;done));have k1_01:w1.cell? ⟨w.heap.size,1,none⟩=some (.int .i64 b):=(hb1.cell (p:=⟨w.heap.size,1,none⟩) (by go_size)).trans (by go_cell);have m1_01:w1.frozen? ⟨w.heap.size,1,none⟩=false:=(hb1.frozen (p:=⟨w.heap.size,1,none⟩) (by go_size)).trans (by first | assumption | (go_simp;done));have k1_02:w1.cell? ⟨w.heap.size,2,none⟩=some (.int .i64 c):=(hb1.cell (p:=⟨w.heap.size,2,none⟩) (by go_size)).trans (by go_cell);have m1_02:w1.frozen? ⟨w.heap.size,2,none⟩=false:=(hb1.frozen (p:=⟨w.heap.size,2,none⟩) (by go_size)).trans (by first | assumption | (go_simp;done));have k1_10:w1.cell? ⟨w.heap.size+1,0,none⟩=some (.int .i64 d):=(hb1.cell (p:=⟨w.heap.size+1,0,none⟩) (by go_size)).trans (by go_cell);have m1_10:w1.frozen? ⟨w.heap.size+1,0,none⟩=false:=(hb1.frozen (p:=⟨w.heap.size+1,0,none⟩) (by go_size)).trans (by first | assumption | (go_simp;done));have k1_11:w1.cell? ⟨w.heap.size+1,1,none⟩=some (.int .i64 e):=(hb1.cell (p:=⟨w.heap.size+1,1,none⟩) (by go_size)).trans (by go_cell);have m1_11:w1.frozen? ⟨w.heap.size+1,1,none⟩=false:=(hb1.frozen (p:=⟨w.heap.size+1,1,none⟩) (by go_size)).trans (by first | assumption | (go_simp;done));have k1_12:w1.cell? ⟨w.heap.size+1,2,none⟩=some (.int .i64 f):=(hb1.cell (p:=⟨w.heap.size+1,2,none⟩) (by go_size)).trans (by go_cell);have m1_12:w1.frozen? ⟨w.heap.size+1,2,none⟩=false:=(hb1.frozen (p:=⟨w.heap.size+1,2,none⟩) (by go_size)).trans (by first | assumption | (go_simp;done));have k1_20:w1.cell? ⟨w.heap.size+1+1,0,none⟩=some (.int .i64 0):=(hb1.cell (p:=⟨w.heap.size+1+1,0,none⟩) (by go_size)).trans (by go_cell);have m1_20:w1.frozen? ⟨w.heap.size+1+1,0,none⟩=false:=(hb1.frozen (p:=⟨w.heap.size+1+1,0,none⟩) (by go_size)).trans (by first | assumption | (go_simp;done));have k1_21:w1.cell? ⟨w.heap.size+1+1,1,none⟩=some (.int .i64 0):=(hb1.cell (p:=⟨w.heap.size+1+1,1,none⟩) (by go_size)).trans (by go_cell);have m1_21:w1.frozen? ⟨w.heap.size+1+1,1,none⟩=false:=(hb1.frozen (p:=⟨w.heap.size+1+1,1,none⟩) (by go_size)).trans (by first | assumption | (go_simp;done));have k1_22:w1.cell? ⟨w.heap.size+1+1,2,none⟩=some (.int .i64 0):=(hb1.cell (p:=⟨w.heap.size+1+1,2,none⟩) (by go_size)).trans (by go_cell);have m1_22:w1.frozen? ⟨w.heap.size+1+1,2,none⟩=false:=(hb1.frozen (p:=⟨w.heap.size+1+1,2,none⟩) (by go_size)).trans (by first | assumption | (go_simp;done))
 go_wp2_with fail
 refine (right_any _ _ _ _).mono ?_;rintro r w2 ⟨rfl,hb2⟩;have hz2a:w.heap.size<w2.heap.size:=(by have h:=hb2.size;(try simp only [World.size_alloc,World.size_setCell,World.size_drew] at h);omega);have hz2b:w.heap.size+1<w2.heap.size:=(by have h:=hb2.size;(try simp only [World.size_alloc,World.size_setCell,World.size_drew] at h);omega);have hz2c:w.heap.size+1+1<w2.heap.size:=(by have h:=hb2.size;(try simp only [World.size_alloc,World.size_setCell,World.size_drew] at h);omega);have k2_00:w2.cell? ⟨w.heap.size,0,none⟩=some (.int .i64 a):=(hb2.cell (p:=⟨w.heap.size,0,none⟩) (by go_size)).trans (by go_cell);have m2_00:w2.frozen? ⟨w.heap.size,0,none⟩=false:=(hb2.frozen (p:=⟨w.heap.size,0,none⟩) (by go_size)).trans (by first | assumption | (go_simp;done));have k2_01:w2.cell? ⟨w.heap.size,1,none⟩=some (.int .i64 b):=(hb2.cell (p:=⟨w.heap.size,1,none⟩) (by go_size)).trans (by go_cell);have m2_01:w2.frozen? ⟨w.heap.size,1,none⟩=false:=(hb2.frozen (p:=⟨w.heap.size,1,none⟩) (by go_size)).trans (by first | assumption | (go_simp;done));have k2_02:w2.cell? ⟨w.heap.size,2,none⟩=some (.int .i64 c):=(hb2.cell (p:=⟨w.heap.size,2,none⟩) (by go_size)).trans (by go_cell);have m2_02:w2.frozen? ⟨w.heap.size,2,none⟩=false:=(hb2.frozen (p:=⟨w.heap.size,2,none⟩) (by go_size)).trans (by first | assumption | (go_simp;done));have k2_10:w2.cell? ⟨w.heap.size+1,0,none⟩=some (.int .i64 d):=(hb2.cell (p:=⟨w.heap.size+1,0,none⟩) (by go_size)).trans (by go_cell);have m2_10:w2.frozen? ⟨w.heap.size+1,0,none⟩=false:=(hb2.frozen (p:=⟨w.heap.size+1,0,none⟩) (by go_size)).trans (by first | assumption | (go_simp;done));have k2_11:w2.cell? ⟨w.heap.size+1,1,none⟩=some (.int .i64 e):=(hb2.cell (p:=⟨w.heap.size+1,1,none⟩) (by go_size)).trans (by go_cell);have m2_11:w2.frozen? ⟨w.heap.size+1,1,none⟩=false:=(hb2.frozen (p:=⟨w.heap.size+1,1,none⟩) (by go_size)).trans (by first | assumption | (go_simp;done));have k2_12:w2.cell? ⟨w.heap.size+1,2,none⟩=some (.int .i64 f):=(hb2.cell (p:=⟨w.heap.size+1,2,none⟩) (by go_size)).trans (by go_cell);have m2_12:w2.frozen? ⟨w.heap.size+1,2,none⟩=false:=(hb2.frozen (p:=⟨w.heap.size+1,2,none⟩) (by go_size)).trans (by first | assumption | (go_simp;done));have k2_20:w2.cell? ⟨w.heap.size+1+1,0,none⟩=some (.int .i64 0):=(hb2.cell (p:=⟨w.heap.size+1+1,0,none⟩) (by go_size)).trans (by go_cell);have m2_20:w2.frozen? ⟨w.heap.size+1+1,0,none⟩=false:=(hb2.frozen (p:=⟨w.heap.size+1+1,0,none⟩) (by go_size)).trans (by first | assumption | (go_simp;done));have k2_21:w2.cell? ⟨w.heap.size+1+1,1,none⟩=some (.int .i64 0):=(hb2.cell (p:=⟨w.heap.size+1+1,1,none⟩) (by go_size)).trans (by go_cell);have m2_21:w2.frozen? ⟨w.heap.size+1+1,1,none⟩=false:=(hb2.frozen (p:=⟨w.heap.size+1+1,1,none⟩) (by go_size)).trans (by first | assumption | (go_simp;done));have k2_22:w2.cell? ⟨w.heap.size+1+1,2,none⟩=some (.int .i64 0):=(hb2.cell (p:=⟨w.heap.size+1+1,2,none⟩) (by go_size)).trans (by go_cell);have m2_22:w2.frozen? ⟨w.heap.size+1+1,2,none⟩=false:=(hb2.frozen (p:=⟨w.heap.size+1+1,2,none⟩) (by go_size)).trans (by first | assumption | (go_simp;done));clear k1_00 k1_01 k1_02 k1_10 k1_11 k1_12 k1_20 k1_21 k1_22 m1_00 m1_01 m1_02 m1_10 m1_11 m1_12 m1_20 m1_21 m1_22
 go_wp2_with fail
 refine wp_loop_rounds 4 ?_
 repeat any_goals (rw [rounds_succ];go_wp2_with fail)
 refine (result_ok _ _ _ _ H3.out).mono ?_;rintro r w3 ⟨rfl,hb3⟩;obtain ⟨hc3,hf3⟩:=bcell hb3;have hz3a:w.heap.size<w3.heap.size:=(by have h:=hb3.size;(try simp only [World.size_alloc,World.size_setCell,World.size_drew] at h);omega);have hz3b:w.heap.size+1<w3.heap.size:=(by have h:=hb3.size;(try simp only [World.size_alloc,World.size_setCell,World.size_drew] at h);omega);have hz3c:w.heap.size+1+1<w3.heap.size:=(by have h:=hb3.size;(try simp only [World.size_alloc,World.size_setCell,World.size_drew] at h);omega)
 go_wp2
 exact bodyPost_ret (v:=.tuple #[.agg #[.int .i64 (a - d),.int .i64 (b - e),.int .i64 (c - f)],.int .i64 0]) (by simp [results,Tryz.results64,go_sem,hc3,hz2a,hz2b,hz2c,k2_20,k2_21,k2_22]) rfl ⟨rfl,by (repeat' (first | (with_reducible exact Below.refl _ _) | (with_reducible refine Below.drew ?_) | (with_reducible refine Below.setCell ?_ ?_ _) | (with_reducible refine Below.alloc ?_ ?_ _) | (with_reducible refine Below.trans ?_ (Below.mono hb1 ?_)) | (with_reducible refine Below.trans ?_ (Below.mono hb2 ?_)) | (with_reducible refine Below.trans ?_ (Below.mono hb3 ?_)) | go_size))⟩

theorem sub_over (a b c d e f:Int) (w:World) (h:rB a b c=true) (h2:rB d e f=true) (h3:rB (a - d) (b - e) (c - f)=false) :
  Calls Tryz.prog 64 #[.agg #[.int .i64 a,.int .i64 b,.int .i64 c],.agg #[.int .i64 d,.int .i64 e,.int .i64 f]] w fun r w'=>r = .returned (.tuple #[.agg #[.int .i64 0,.int .i64 0,.int .i64 0],.int .i64 6])/\Below w.heap.size w w':=by
 have i0:∀ w,(Instr.index 40 (.agg #[.int .i64 d,.int .i64 e,.int .i64 f]) (.int .i64 0)).run Tryz.prog w = .ok (.int .i64 d) w:=fun _=>by kernel_rfl
 have i1:∀ w,(Instr.index 40 (.agg #[.int .i64 d,.int .i64 e,.int .i64 f]) (.int .i64 1)).run Tryz.prog w = .ok (.int .i64 e) w:=fun _=>by kernel_rfl
 have i2:∀ w,(Instr.index 40 (.agg #[.int .i64 d,.int .i64 e,.int .i64 f]) (.int .i64 2)).run Tryz.prog w = .ok (.int .i64 f) w:=fun _=>by kernel_rfl
 obtain ⟨a0,a1,b0,b1,c0,c1⟩:=rB_bd h
 obtain ⟨d0,d1,e0,e1,f0,f1⟩:=rB_bd h2
 have H3:=Lib.hid h3;clear h3
 go_enter Tryz.func64,Tryz.ntmps64
 go_wp2_with fail
 refine (right_any _ _ _ _).mono ?_;rintro r w1 ⟨rfl,hb1⟩;have hz1a:w.heap.size<w1.heap.size:=(by have h:=hb1.size;(try simp only [World.size_alloc,World.size_setCell,World.size_drew] at h);omega);have hz1b:w.heap.size+1<w1.heap.size:=(by have h:=hb1.size;(try simp only [World.size_alloc,World.size_setCell,World.size_drew] at h);omega);have hz1c:w.heap.size+1+1<w1.heap.size:=(by have h:=hb1.size;(try simp only [World.size_alloc,World.size_setCell,World.size_drew] at h);omega);have k1_00:w1.cell? ⟨w.heap.size,0,none⟩=some (.int .i64 a):=(hb1.cell (p:=⟨w.heap.size,0,none⟩) (by go_size)).trans (by go_cell);have m1_00:w1.frozen? ⟨w.heap.size,0,none⟩=false:=(hb1.frozen (p:=⟨w.heap.size,0,none⟩) (by go_size)).trans (by first | assumption | (go_simp;done));have k1_01:w1.cell? ⟨w.heap.size,1,none⟩=some (.int .i64 b):=(hb1.cell (p:=⟨w.heap.size,1,none⟩) (by go_size)).trans (by go_cell);have m1_01:w1.frozen? ⟨w.heap.size,1,none⟩=false:=(hb1.frozen (p:=⟨w.heap.size,1,none⟩) (by go_size)).trans (by first | assumption | (go_simp;done));have k1_02:w1.cell? ⟨w.heap.size,2,none⟩=some (.int .i64 c):=(hb1.cell (p:=⟨w.heap.size,2,none⟩) (by go_size)).trans (by go_cell);have m1_02:w1.frozen? ⟨w.heap.size,2,none⟩=false:=(hb1.frozen (p:=⟨w.heap.size,2,none⟩) (by go_size)).trans (by first | assumption | (go_simp;done));have k1_10:w1.cell? ⟨w.heap.size+1,0,none⟩=some (.int .i64 d):=(hb1.cell (p:=⟨w.heap.size+1,0,none⟩) (by go_size)).trans (by go_cell);have m1_10:w1.frozen? ⟨w.heap.size+1,0,none⟩=false:=(hb1.frozen (p:=⟨w.heap.size+1,0,none⟩) (by go_size)).trans (by first | assumption | (go_simp;done));have k1_11:w1.cell? ⟨w.heap.size+1,1,none⟩=some (.int .i64 e):=(hb1.cell (p:=⟨w.heap.size+1,1,none⟩) (by go_size)).trans (by go_cell);have m1_11:w1.frozen? ⟨w.heap.size+1,1,none⟩=false:=(hb1.frozen (p:=⟨w.heap.size+1,1,none⟩) (by go_size)).trans (by first | assumption | (go_simp;done));have k1_12:w1.cell? ⟨w.heap.size+1,2,none⟩=some (.int .i64 f):=(hb1.cell (p:=⟨w.heap.size+1,2,none⟩) (by go_size)).trans (by go_cell);have m1_12:w1.frozen? ⟨w.heap.size+1,2,none⟩=false:=(hb1.frozen (p:=⟨w.heap.size+1,2,none⟩) (by go_size)).trans (by first | assumption | (go_simp;done));have k1_20:w1.cell? ⟨w.heap.size+1+1,0,none⟩=some (.int .i64 0):=(hb1.cell (p:=⟨w.heap.size+1+1,0,none⟩) (by go_size)).trans (by go_cell);have m1_20:w1.frozen? ⟨w.heap.size+1+1,0,none⟩=false:=(hb1.frozen (p:=⟨w.heap.size+1+1,0,none⟩) (by go_size)).trans (by first | assumption | (go_simp;done));have k1_21:w1.cell? ⟨w.heap.size+1+1,1,none⟩=some (.int .i64 0):=(hb1.cell (p:=⟨w.heap.size+1+1,1,none⟩) (by go_size)).trans (by go_cell);have m1_21:w1.frozen? ⟨w.heap.size+1+1,1,none⟩=false:=(hb1.frozen (p:=⟨w.heap.size+1+1,1,none⟩) (by go_size)).trans (by first | assumption | (go_simp;done));have k1_22:w1.cell? ⟨w.heap.size+1+1,2,none⟩=some (.int .i64 0):=(hb1.cell (p:=⟨w.heap.size+1+1,2,none⟩) (by go_size)).trans (by go_cell);have m1_22:w1.frozen? ⟨w.heap.size+1+1,2,none⟩=false:=(hb1.frozen (p:=⟨w.heap.size+1+1,2,none⟩) (by go_size)).trans (by first | assumption | (go_simp;done))
 go_wp2_with fail
 refine (right_any _ _ _ _).mono ?_;rintro r w2 ⟨rfl,hb2⟩;have hz2a:w.heap.size<w2.heap.size:=(by have h:=hb2.size;(try simp only [World.size_alloc,World.size_setCell,World.size_drew] at h);omega);have hz2b:w.heap.size+1<w2.heap.size:=(by have h:=hb2.size;(try simp only [World.size_alloc,World.size_setCell,World.size_drew] at h);omega);have hz2c:w.heap.size+1+1<w2.heap.size:=(by have h:=hb2.size;(try simp only [World.size_alloc,World.size_setCell,World.size_drew] at h);omega);have k2_00:w2.cell? ⟨w.heap.size,0,none⟩=some (.int .i64 a):=(hb2.cell (p:=⟨w.heap.size,0,none⟩) (by go_size)).trans (by go_cell);have m2_00:w2.frozen? ⟨w.heap.size,0,none⟩=false:=(hb2.frozen (p:=⟨w.heap.size,0,none⟩) (by go_size)).trans (by first | assumption | (go_simp;done));have k2_01:w2.cell? ⟨w.heap.size,1,none⟩=some (.int .i64 b):=(hb2.cell (p:=⟨w.heap.size,1,none⟩) (by go_size)).trans (by go_cell);have m2_01:w2.frozen? ⟨w.heap.size,1,none⟩=false:=(hb2.frozen (p:=⟨w.heap.size,1,none⟩) (by go_size)).trans (by first | assumption | (go_simp;done));have k2_02:w2.cell? ⟨w.heap.size,2,none⟩=some (.int .i64 c):=(hb2.cell (p:=⟨w.heap.size,2,none⟩) (by go_size)).trans (by go_cell);have m2_02:w2.frozen? ⟨w.heap.size,2,none⟩=false:=(hb2.frozen (p:=⟨w.heap.size,2,none⟩) (by go_size)).trans (by first | assumption | (go_simp;done));have k2_10:w2.cell? ⟨w.heap.size+1,0,none⟩=some (.int .i64 d):=(hb2.cell (p:=⟨w.heap.size+1,0,none⟩) (by go_size)).trans (by go_cell);have m2_10:w2.frozen? ⟨w.heap.size+1,0,none⟩=false:=(hb2.frozen (p:=⟨w.heap.size+1,0,none⟩) (by go_size)).trans (by first | assumption | (go_simp;done));have k2_11:w2.cell? ⟨w.heap.size+1,1,none⟩=some (.int .i64 e):=(hb2.cell (p:=⟨w.heap.size+1,1,none⟩) (by go_size)).trans (by go_cell);have m2_11:w2.frozen? ⟨w.heap.size+1,1,none⟩=false:=(hb2.frozen (p:=⟨w.heap.size+1,1,none⟩) (by go_size)).trans (by first | assumption | (go_simp;done));have k2_12:w2.cell? ⟨w.heap.size+1,2,none⟩=some (.int .i64 f):=(hb2.cell (p:=⟨w.heap.size+1,2,none⟩) (by go_size)).trans (by go_cell);have m2_12:w2.frozen? ⟨w.heap.size+1,2,none⟩=false:=(hb2.frozen (p:=⟨w.heap.size+1,2,none⟩) (by go_size)).trans (by first | assumption | (go_simp;done));have k2_20:w2.cell? ⟨w.heap.size+1+1,0,none⟩=some (.int .i64 0):=(hb2.cell (p:=⟨w.heap.size+1+1,0,none⟩) (by go_size)).trans (by go_cell);have m2_20:w2.frozen? ⟨w.heap.size+1+1,0,none⟩=false:=(hb2.frozen (p:=⟨w.heap.size+1+1,0,none⟩) (by go_size)).trans (by first | assumption | (go_simp;done));have k2_21:w2.cell? ⟨w.heap.size+1+1,1,none⟩=some (.int .i64 0):=(hb2.cell (p:=⟨w.heap.size+1+1,1,none⟩) (by go_size)).trans (by go_cell);have m2_21:w2.frozen? ⟨w.heap.size+1+1,1,none⟩=false:=(hb2.frozen (p:=⟨w.heap.size+1+1,1,none⟩) (by go_size)).trans (by first | assumption | (go_simp;done));have k2_22:w2.cell? ⟨w.heap.size+1+1,2,none⟩=some (.int .i64 0):=(hb2.cell (p:=⟨w.heap.size+1+1,2,none⟩) (by go_size)).trans (by go_cell);have m2_22:w2.frozen? ⟨w.heap.size+1+1,2,none⟩=false:=(hb2.frozen (p:=⟨w.heap.size+1+1,2,none⟩) (by go_size)).trans (by first | assumption | (go_simp;done));clear k1_00 k1_01 k1_02 k1_10 k1_11 k1_12 k1_20 k1_21 k1_22 m1_00 m1_01 m1_02 m1_10 m1_11 m1_12 m1_20 m1_21 m1_22
 go_wp2_with fail
 refine wp_loop_rounds 4 ?_
 repeat any_goals (rw [rounds_succ];go_wp2_with fail)
 refine (result_no _ _ _ _ H3.out).mono ?_;rintro r w3 ⟨rfl,hb3⟩;obtain ⟨hc3,hf3⟩:=bcell hb3;have hz3a:w.heap.size<w3.heap.size:=(by have h:=hb3.size;(try simp only [World.size_alloc,World.size_setCell,World.size_drew] at h);omega);have hz3b:w.heap.size+1<w3.heap.size:=(by have h:=hb3.size;(try simp only [World.size_alloc,World.size_setCell,World.size_drew] at h);omega);have hz3c:w.heap.size+1+1<w3.heap.size:=(by have h:=hb3.size;(try simp only [World.size_alloc,World.size_setCell,World.size_drew] at h);omega)
 go_wp2
 exact bodyPost_ret (v:=.tuple #[.agg #[.int .i64 0,.int .i64 0,.int .i64 0],.int .i64 6]) (by simp [results,Tryz.results64,go_sem,hc3,hz2a,hz2b,hz2c,k2_20,k2_21,k2_22]) rfl ⟨rfl,by (repeat' (first | (with_reducible exact Below.refl _ _) | (with_reducible refine Below.drew ?_) | (with_reducible refine Below.setCell ?_ ?_ _) | (with_reducible refine Below.alloc ?_ ?_ _) | (with_reducible refine Below.trans ?_ (Below.mono hb1 ?_)) | (with_reducible refine Below.trans ?_ (Below.mono hb2 ?_)) | (with_reducible refine Below.trans ?_ (Below.mono hb3 ?_)) | go_size))⟩
def kp (ok:Bool) (x:Int):Int:=if ok then x else 0
theorem kp_t (x:Int):kp true x=x:=rfl
def adB (a b c d e f:Int):Bool:=rB a b c && rB d e f && rB (a+d) (b+e) (c+f)
def adE (a b c d e f:Int):Int:=if rB a b c && rB d e f then (if rB (a+d) (b+e) (c+f) then 0 else 6) else 1
def sbB (a b c d e f:Int):Bool:=rB a b c && rB d e f && rB (a - d) (b - e) (c - f)
def sbE (a b c d e f:Int):Int:=if rB a b c && rB d e f then (if rB (a - d) (b - e) (c - f) then 0 else 6) else 1
theorem add_any (a b c d e f:Int) (w:World) :
  Calls Tryz.prog 65 #[.agg #[.int .i64 a,.int .i64 b,.int .i64 c],.agg #[.int .i64 d,.int .i64 e,.int .i64 f]] w fun r w'=>r = .returned (.tuple #[.agg #[.int .i64 (kp (adB a b c d e f) (a+d)),.int .i64 (kp (adB a b c d e f) (b+e)),.int .i64 (kp (adB a b c d e f) (c+f))],.int .i64 (adE a b c d e f)])/\Below w.heap.size w w':=by
 cases h1:rB a b c
 ·exact (add_arg1 a b c d e f w h1).mono fun _ _ ⟨he,hw⟩=>⟨by rw [he];simp [kp,adB,adE,h1],hw⟩
 ·cases h2:rB d e f
  ·exact (add_arg2 a b c d e f w h1 h2).mono fun _ _ ⟨he,hw⟩=>⟨by rw [he];simp [kp,adB,adE,h1,h2],hw⟩
  ·cases h3:rB (a+d) (b+e) (c+f)
   ·exact (add_over a b c d e f w h1 h2 h3).mono fun _ _ ⟨he,hw⟩=>⟨by rw [he];simp [kp,adB,adE,h1,h2,h3],hw⟩
   ·exact (add_ok a b c d e f w h1 h2 h3).mono fun _ _ ⟨he,hw⟩=>⟨by rw [he];simp [kp,adB,adE,h1,h2,h3],hw⟩
theorem sub_any (a b c d e f:Int) (w:World) :
  Calls Tryz.prog 64 #[.agg #[.int .i64 a,.int .i64 b,.int .i64 c],.agg #[.int .i64 d,.int .i64 e,.int .i64 f]] w fun r w'=>r = .returned (.tuple #[.agg #[.int .i64 (kp (sbB a b c d e f) (a - d)),.int .i64 (kp (sbB a b c d e f) (b - e)),.int .i64 (kp (sbB a b c d e f) (c - f))],.int .i64 (sbE a b c d e f)])/\Below w.heap.size w w':=by
 cases h1:rB a b c
 ·exact (sub_arg1 a b c d e f w h1).mono fun _ _ ⟨he,hw⟩=>⟨by rw [he];simp [kp,sbB,sbE,h1],hw⟩
 ·cases h2:rB d e f
  ·exact (sub_arg2 a b c d e f w h1 h2).mono fun _ _ ⟨he,hw⟩=>⟨by rw [he];simp [kp,sbB,sbE,h1,h2],hw⟩
  ·cases h3:rB (a - d) (b - e) (c - f)
   ·exact (sub_over a b c d e f w h1 h2 h3).mono fun _ _ ⟨he,hw⟩=>⟨by rw [he];simp [kp,sbB,sbE,h1,h2,h3],hw⟩
   ·exact (sub_ok a b c d e f w h1 h2 h3).mono fun _ _ ⟨he,hw⟩=>⟨by rw [he];simp [kp,sbB,sbE,h1,h2,h3],hw⟩
def fB (a b c d e f:Int):Bool:=decide (a<=d/\b<=e/\c<=f)

theorem fits_any (a b c d e f:Int) (w:World) :
  Calls Tryz.prog 27 #[.agg #[.int .i64 a,.int .i64 b,.int .i64 c],.agg #[.int .i64 d,.int .i64 e,.int .i64 f]] w fun r w'=>r = .returned (.bool (fB a b c d e f))/\Below w.heap.size w w':=by
 have i0:∀ w,(Instr.index 40 (.agg #[.int .i64 a,.int .i64 b,.int .i64 c]) (.int .i64 0)).run Tryz.prog w = .ok (.int .i64 a) w:=fun _=>by kernel_rfl
 have i1:∀ w,(Instr.index 40 (.agg #[.int .i64 a,.int .i64 b,.int .i64 c]) (.int .i64 1)).run Tryz.prog w = .ok (.int .i64 b) w:=fun _=>by kernel_rfl
 have i2:∀ w,(Instr.index 40 (.agg #[.int .i64 a,.int .i64 b,.int .i64 c]) (.int .i64 2)).run Tryz.prog w = .ok (.int .i64 c) w:=fun _=>by kernel_rfl
 have hfin:fB a b c d e f=decide (a<=d/\b<=e/\c<=f):=rfl
 rw [hfin]
 clear hfin
 rcases (show d<a ∨ a<=d by omega) with h1 | h1 <;> rcases (show e<b ∨ b<=e by omega) with h2 | h2 <;> rcases (show f<c ∨ c<=f by omega) with h3 | h3
 all_goals
  obtain ⟨v,hv⟩:∃ v,v=decide (a<=d/\b<=e/\c<=f):=⟨_,rfl⟩
  rw [<- hv]
  have HV:=Lib.hid hv;clear hv
  go_enter Tryz.func27,Tryz.ntmps27
  go_wp2_with fail
  refine wp_loop_rounds 4 ?_
  repeat any_goals (rw [rounds_succ];go_wp2_with fail)
  all_goals go_ret
  all_goals exact ⟨by rw [HV.out];simp;omega,by (repeat' (first | (with_reducible exact Below.refl _ _) | (with_reducible refine Below.drew ?_) | (with_reducible refine Below.setCell ?_ ?_ _) | (with_reducible refine Below.alloc ?_ ?_ _) | go_size))⟩
end
section
open Go.RowKit
def sm:Int->Int->Int->List (Int × Int × Int)->Int × Int × Int × Int
 | x,y,z,[]=>(x,y,z,0)
 | x,y,z,t :: l=>if adB x y z t.1 t.2.1 t.2.2 then sm (x+t.1) (y+t.2.1) (z+t.2.2) l else (0,0,0,adE x y z t.1 t.2.1 t.2.2)
theorem sm_nil (x y z:Int):sm x y z []=(x,y,z,0):=rfl
theorem sm_ok {x y z:Int} {t:Int × Int × Int} {l:List (Int × Int × Int)} (h:adB x y z t.1 t.2.1 t.2.2=true):sm x y z (t :: l)=sm (x+t.1) (y+t.2.1) (z+t.2.2) l:=by simp [sm,h]
theorem sm_no {x y z:Int} {t:Int × Int × Int} {l:List (Int × Int × Int)} (h:adB x y z t.1 t.2.1 t.2.2=false):sm x y z (t :: l)=(0,0,0,adE x y z t.1 t.2.1 t.2.2):=by simp [sm,h]
theorem adE_ok {a b c d e f:Int} (h:adB a b c d e f=true):adE a b c d e f=0:=by
 simp only [adB,Bool.and_eq_true] at h
 simp [adE,h]
theorem adE_no {a b c d e f:Int} (h:adB a b c d e f=false):adE a b c d e f=1 ∨ adE a b c d e f=6:=by
 unfold adE
 unfold adB at h
 cases h1:rB a b c && rB d e f
 ·exact .inl (by simp)
 ·rw [h1,Bool.true_and] at h
  exact .inr (by simp [h])
theorem add_true {a b c d e f:Int} (h:adB a b c d e f=true) (w:World) :
  Calls Tryz.prog 65 #[.agg #[.int .i64 a,.int .i64 b,.int .i64 c],.agg #[.int .i64 d,.int .i64 e,.int .i64 f]] w fun r w'=>r = .returned (.tuple #[.agg #[.int .i64 (a+d),.int .i64 (b+e),.int .i64 (c+f)],.int .i64 0])/\Below w.heap.size w w':=
 (add_any a b c d e f w).mono fun _ _ ⟨he,hw⟩=>⟨by rw [he,h,adE_ok h];rfl,hw⟩
theorem add_false {a b c d e f v:Int} (h:adB a b c d e f=false) (hv:adE a b c d e f=v) (w:World) :
  Calls Tryz.prog 65 #[.agg #[.int .i64 a,.int .i64 b,.int .i64 c],.agg #[.int .i64 d,.int .i64 e,.int .i64 f]] w fun r w'=>r = .returned (.tuple #[.agg #[.int .i64 0,.int .i64 0,.int .i64 0],.int .i64 v])/\Below w.heap.size w w':=
 (add_any a b c d e f w).mono fun _ _ ⟨he,hw⟩=>⟨by rw [he,h,hv];rfl,hw⟩
def RdV (w:World) (A:Option Addr) (l:List (Int × Int × Int)):Prop:=∀ i t,l[i]? = some t -> ∃ g o,A=some ⟨g,o,none⟩/\w.cell? ⟨g,o+i * 3,none⟩=some (.int .i64 t.1)/\w.cell? ⟨g,o+i * 3+1,none⟩=some (.int .i64 t.2.1)/\w.cell? ⟨g,o+i * 3+2,none⟩=some (.int .i64 t.2.2)
theorem RdV.below {w w':World} {A:Option Addr} {l:List (Int × Int × Int)} (h:RdV w A l) (hb:Below w.heap.size w w'):RdV w' A l:=fun i t ht=>by
 obtain ⟨g,o,ha,h0,h1,h2⟩:=h i t ht
 have hl:=World.block_lt_of_cell? w _ h0
 exact ⟨g,o,ha,(hb.cell (p:=⟨g,o+i * 3,none⟩) hl).trans h0,(hb.cell (p:=⟨g,o+i * 3+1,none⟩) hl).trans h1,(hb.cell (p:=⟨g,o+i * 3+2,none⟩) hl).trans h2⟩
end
end Go.Proofs.YtccccbofcnmdiaaGreat
