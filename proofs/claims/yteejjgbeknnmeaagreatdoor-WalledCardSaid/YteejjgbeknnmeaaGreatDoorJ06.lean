import Derived.Test.YteejjgbeknnmeaaGreatDoorJ05
import Derived.Test.YteejjgbeknnmeaaGreatDoorJ04
import Derived.Deep.CutBlock
set_option maxRecDepth 100000
set_option maxHeartbeats 20000000
namespace Go.Proofs.YteejjgbeknnmeaaGreatDoor
open Go.RowKit
abbrev ops27a:List Oper:=
 [{ dst:=some 25,op:=Op.move (Operand.tmp 0),type:=35,pos:= "tools.go:52",after:=#[],guard:=none },{ dst:=some 26,op:=Op.fieldAddr 63 (Operand.tmp 4) 1,type:=0,pos:= "tools.go:52",after:=#[],guard:=none },{ dst:=some 27,op:=Op.load 3 (Operand.tmp 26),type:=3,pos:= "tools.go:52",after:=#[{ on:=1,ground:=Ground.data }],guard:=none },{ dst:=some 28,op:=Op.call { callee:=Callee.value (Operand.func 16),args:=#[Operand.tmp 27,Operand.const (Value.int IntKind.i64 6)],argTypes:=#[3,3] },type:=3,pos:= "tools.go:52",after:=#[{ on:=2,ground:=Ground.data }],guard:=none },{ dst:=some 29,op:=Op.fieldAddr 63 (Operand.tmp 4) 2,type:=0,pos:= "tools.go:52",after:=#[],guard:=none },{ dst:=some 30,op:=Op.load 3 (Operand.tmp 29),type:=3,pos:= "tools.go:52",after:=#[{ on:=4,ground:=Ground.data }],guard:=none },{ dst:=some 31,op:=Op.call { callee:=Callee.value (Operand.func 16),args:=#[Operand.tmp 30,Operand.const (Value.int IntKind.i64 4)],argTypes:=#[3,3] },type:=3,pos:= "tools.go:52",after:=#[{ on:=5,ground:=Ground.data },{ on:=3,ground:=Ground.chain }],guard:=none },{ dst:=some 32,op:=Op.fieldAddr 63 (Operand.tmp 4) 3,type:=0,pos:= "tools.go:52",after:=#[],guard:=none },{ dst:=some 33,op:=Op.load 3 (Operand.tmp 32),type:=3,pos:= "tools.go:52",after:=#[{ on:=7,ground:=Ground.data }],guard:=none },{ dst:=some 34,op:=Op.call { callee:=Callee.value (Operand.func 39),args:=#[Operand.tmp 25,Operand.tmp 28,Operand.tmp 31,Operand.tmp 33],argTypes:=#[35,3,3,2] },type:=44,pos:= "tools.go:52",after:=#[{ on:=0,ground:=Ground.data },{ on:=3,ground:=Ground.data },{ on:=6,ground:=Ground.data },{ on:=8,ground:=Ground.data },{ on:=6,ground:=Ground.chain }],guard:=none }]
theorem lex27a:Region.lexTailB .any (ops27a).toArray 9=true:=by kernel_rfl
abbrev ops27b:List Oper:=
 [{ dst:=some 37,op:=Op.move (Operand.tmp 0),type:=35,pos:= "tools.go:54",after:=#[],guard:=none },{ dst:=some 38,op:=Op.fieldAddr 63 (Operand.tmp 4) 1,type:=0,pos:= "tools.go:54",after:=#[],guard:=none },{ dst:=some 39,op:=Op.load 3 (Operand.tmp 38),type:=3,pos:= "tools.go:54",after:=#[{ on:=1,ground:=Ground.data }],guard:=none },{ dst:=some 40,op:=Op.call { callee:=Callee.value (Operand.func 16),args:=#[Operand.tmp 39,Operand.const (Value.int IntKind.i64 6)],argTypes:=#[3,3] },type:=3,pos:= "tools.go:54",after:=#[{ on:=2,ground:=Ground.data }],guard:=none },{ dst:=some 41,op:=Op.fieldAddr 63 (Operand.tmp 4) 2,type:=0,pos:= "tools.go:54",after:=#[],guard:=none },{ dst:=some 42,op:=Op.load 3 (Operand.tmp 41),type:=3,pos:= "tools.go:54",after:=#[{ on:=4,ground:=Ground.data }],guard:=none },{ dst:=some 43,op:=Op.binOp BinOp.rem 3 (Operand.tmp 42) (Operand.const (Value.int IntKind.i64 2)) 3,type:=3,pos:= "tools.go:54",after:=#[{ on:=5,ground:=Ground.data }],guard:=none },{ dst:=some 44,op:=Op.binOp BinOp.eql 3 (Operand.tmp 43) (Operand.const (Value.int IntKind.i64 0)) 3,type:=4,pos:= "tools.go:54",after:=#[{ on:=6,ground:=Ground.data }],guard:=none },{ dst:=some 45,op:=Op.call { callee:=Callee.value (Operand.func 30),args:=#[Operand.tmp 37,Operand.tmp 40,Operand.tmp 44],argTypes:=#[35,3,4] },type:=44,pos:= "tools.go:54",after:=#[{ on:=0,ground:=Ground.data },{ on:=3,ground:=Ground.data },{ on:=7,ground:=Ground.data },{ on:=3,ground:=Ground.chain }],guard:=none }]
theorem lex27b:Region.lexTailB .any (ops27b).toArray 8=true:=by kernel_rfl
abbrev ops27c:List Oper:=
 [{ dst:=some 48,op:=Op.move (Operand.tmp 0),type:=35,pos:= "tools.go:56",after:=#[],guard:=none },{ dst:=some 49,op:=Op.fieldAddr 63 (Operand.tmp 4) 1,type:=0,pos:= "tools.go:56",after:=#[],guard:=none },{ dst:=some 50,op:=Op.load 3 (Operand.tmp 49),type:=3,pos:= "tools.go:56",after:=#[{ on:=1,ground:=Ground.data }],guard:=none },{ dst:=some 51,op:=Op.call { callee:=Callee.value (Operand.func 16),args:=#[Operand.tmp 50,Operand.const (Value.int IntKind.i64 6)],argTypes:=#[3,3] },type:=3,pos:= "tools.go:56",after:=#[{ on:=2,ground:=Ground.data }],guard:=none },{ dst:=some 52,op:=Op.fieldAddr 63 (Operand.tmp 4) 2,type:=0,pos:= "tools.go:56",after:=#[],guard:=none },{ dst:=some 53,op:=Op.load 3 (Operand.tmp 52),type:=3,pos:= "tools.go:56",after:=#[{ on:=4,ground:=Ground.data }],guard:=none },{ dst:=some 54,op:=Op.call { callee:=Callee.value (Operand.func 16),args:=#[Operand.tmp 53,Operand.const (Value.int IntKind.i64 6)],argTypes:=#[3,3] },type:=3,pos:= "tools.go:56",after:=#[{ on:=5,ground:=Ground.data },{ on:=3,ground:=Ground.chain }],guard:=none },{ dst:=some 55,op:=Op.fieldAddr 63 (Operand.tmp 4) 3,type:=0,pos:= "tools.go:56",after:=#[],guard:=none },{ dst:=some 56,op:=Op.load 3 (Operand.tmp 55),type:=3,pos:= "tools.go:56",after:=#[{ on:=7,ground:=Ground.data }],guard:=none },{ dst:=some 57,op:=Op.call { callee:=Callee.value (Operand.func 16),args:=#[Operand.tmp 56,Operand.const (Value.int IntKind.i64 3)],argTypes:=#[3,3] },type:=3,pos:= "tools.go:56",after:=#[{ on:=8,ground:=Ground.data },{ on:=6,ground:=Ground.chain }],guard:=none },{ dst:=some 58,op:=Op.binOp BinOp.add 3 (Operand.const (Value.int IntKind.i64 1)) (Operand.tmp 57) 3,type:=3,pos:= "tools.go:56",after:=#[{ on:=9,ground:=Ground.data }],guard:=none },{ dst:=some 59,op:=Op.call { callee:=Callee.value (Operand.func 48),args:=#[Operand.tmp 48,Operand.tmp 51,Operand.tmp 54,Operand.tmp 58],argTypes:=#[35,3,3,3] },type:=44,pos:= "tools.go:56",after:=#[{ on:=0,ground:=Ground.data },{ on:=3,ground:=Ground.data },{ on:=6,ground:=Ground.data },{ on:=10,ground:=Ground.data },{ on:=9,ground:=Ground.chain }],guard:=none }]
theorem lex27c:Region.lexTailB .any (ops27c).toArray 11=true:=by kernel_rfl
section
variable {Rep:World->Nat->(Nat->Prop)->RM->Prop}(A:ApM Rep)
theorem tmod_in {e k:Int}(hk:0 < k/\k < 100):-9223372036854775808<=e.tmod k/\e.tmod k<=9223372036854775807:=by
 rcases Int.le_total 0 e with h | h
 ·rw [Int.tmod_eq_emod_of_nonneg h]
  have h1:=Int.emod_lt_of_pos e hk.1
  have h2:=Int.emod_nonneg e (show k≠0 by omega)
  omega
 ·have e1:e.tmod k=-((-e).tmod k):=by rw [Int.neg_tmod];omega
  have h':0<=-e:=by omega
  rw [e1,Int.tmod_eq_emod_of_nonneg h']
  have h1:=Int.emod_lt_of_pos (-e) hk.1
  have h2:=Int.emod_nonneg (-e) (show k≠0 by omega)
  omega
theorem KN.from {W w w1 w':World}{x n:Nat}{S:Nat->Prop}{K:RM}(hb:Below w.heap.size w w1) (h:KN Rep W w1 x S K n w'):KN Rep W w x S K n w':=by
 obtain ⟨S',h1,h2,h3⟩:=h
 exact ⟨S',h1,fun b hb'=>(h2 b hb').imp id (fun e=>Nat.le_trans hb.size e),(Fr.of_below hb S).trans h3⟩
include A in
theorem does_tick0 {W w:World}{x n:Nat}{S:Nat->Prop}{K:RM}(h:KS Rep W w x S K n) (hn:n<=1000000000000000) (c:Ac) (s:Sv) (ha:AcOk W c s) (N:Nat) (hk:pickI c.kd 12=0) :
  Calls Tryz.prog 27 #[.pointer (some ⟨x,0,none⟩),.agg (acA c s),.int .i64 N] w fun e w'=>e=.returned (.tuple #[])/\KN Rep W w x S (doesM N c K) (n+1) w':=by
 have hb:Below w.heap.size w (w.alloc (.cells (acA c s) 63)):=(Below.refl _ w).alloc (Nat.le_refl _) _
 have HB:=hid hb
 have H:=hid (h.below A hb)
 have HA:=hid ha
 have PK:=hid (fun w=>pickK_any c.kd 12 w ha.b0.1 ha.b0.2 (by omega) (by omega))
 have hwn:=heap_alloc_new w (.cells (acA c s) 63)
 obtain ⟨wa,hwa⟩:∃ wa,w.alloc (.cells (acA c s) 63)=wa:=⟨_,rfl⟩
 rw [hwa] at HB H hwn
 have lw:w.heap.size < wa.heap.size:=by rw [<- hwa];simp
 have gg0:wa.cell? ⟨w.heap.size,0,none⟩=some (.int .i64 c.kd):=(cell_of_row _ _ 0 _ _ _ hwn).trans rfl
 have gg1:wa.cell? ⟨w.heap.size,1,none⟩=some (.int .i64 c.A):=(cell_of_row _ _ 1 _ _ _ hwn).trans rfl
 have gg2:wa.cell? ⟨w.heap.size,2,none⟩=some (.int .i64 c.B):=(cell_of_row _ _ 2 _ _ _ hwn).trans rfl
 have gg3:wa.cell? ⟨w.heap.size,3,none⟩=some (.int .i64 c.C):=(cell_of_row _ _ 3 _ _ _ hwn).trans rfl
 have HN:=hid hwn
 clear hb hwn h
 have e0:pickI c.kd 12=0:=hk
 rw [e0] at PK
 have ed:doesM N c K=K.tick:=by unfold doesM;rw [if_pos (by omega)]
 rw [ed]
 have C:=hid (ks_tick A H.out hn)
 clear e0 ed hk
 have HWA:=hid hwa
 clear hwa ha
 go_enter Tryz.func27,Tryz.ntmps27
 go_wp2_with fail
 rw [HWA.out]
 refine (PK.out _).mono ?_
 rintro e w1 ⟨rfl,rfl⟩
 go_wp2_with ((go_at_call 19;refine C.out.mono ?_;rintro e w2 ⟨rfl,K2⟩;replace K2:=hid K2))
 first
  | (go_end0;exact ⟨rfl,KN.from HB.out K2.out⟩)
  | (refine bodyPost_ret (results_none rfl _ _ _) rfl ?_;exact ⟨rfl,KN.from HB.out K2.out⟩)
  | (go_ret;exact ⟨rfl,KN.from HB.out K2.out⟩)
  | trace_state
include A in
theorem does_tick1 {W w:World}{x n:Nat}{S:Nat->Prop}{K:RM}(h:KS Rep W w x S K n) (hn:n<=1000000000000000) (c:Ac) (s:Sv) (ha:AcOk W c s) (N:Nat) (hk:pickI c.kd 12=1) :
  Calls Tryz.prog 27 #[.pointer (some ⟨x,0,none⟩),.agg (acA c s),.int .i64 N] w fun e w'=>e=.returned (.tuple #[])/\KN Rep W w x S (doesM N c K) (n+1) w':=by
 have hb:Below w.heap.size w (w.alloc (.cells (acA c s) 63)):=(Below.refl _ w).alloc (Nat.le_refl _) _
 have HB:=hid hb
 have H:=hid (h.below A hb)
 have HA:=hid ha
 have PK:=hid (fun w=>pickK_any c.kd 12 w ha.b0.1 ha.b0.2 (by omega) (by omega))
 have hwn:=heap_alloc_new w (.cells (acA c s) 63)
 obtain ⟨wa,hwa⟩:∃ wa,w.alloc (.cells (acA c s) 63)=wa:=⟨_,rfl⟩
 rw [hwa] at HB H hwn
 have lw:w.heap.size < wa.heap.size:=by rw [<- hwa];simp
 have gg0:wa.cell? ⟨w.heap.size,0,none⟩=some (.int .i64 c.kd):=(cell_of_row _ _ 0 _ _ _ hwn).trans rfl
 have gg1:wa.cell? ⟨w.heap.size,1,none⟩=some (.int .i64 c.A):=(cell_of_row _ _ 1 _ _ _ hwn).trans rfl
 have gg2:wa.cell? ⟨w.heap.size,2,none⟩=some (.int .i64 c.B):=(cell_of_row _ _ 2 _ _ _ hwn).trans rfl
 have gg3:wa.cell? ⟨w.heap.size,3,none⟩=some (.int .i64 c.C):=(cell_of_row _ _ 3 _ _ _ hwn).trans rfl
 have HN:=hid hwn
 clear hb hwn h
 have e0:pickI c.kd 12=1:=hk
 rw [e0] at PK
 have ed:doesM N c K=K.tick:=by unfold doesM;rw [if_pos (by omega)]
 rw [ed]
 have C:=hid (ks_tick A H.out hn)
 clear e0 ed hk
 have HWA:=hid hwa
 clear hwa ha
 go_enter Tryz.func27,Tryz.ntmps27
 go_wp2_with fail
 rw [HWA.out]
 refine (PK.out _).mono ?_
 rintro e w1 ⟨rfl,rfl⟩
 go_wp2_with ((go_at_call 19;refine C.out.mono ?_;rintro e w2 ⟨rfl,K2⟩;replace K2:=hid K2))
 first
  | (go_end0;exact ⟨rfl,KN.from HB.out K2.out⟩)
  | (refine bodyPost_ret (results_none rfl _ _ _) rfl ?_;exact ⟨rfl,KN.from HB.out K2.out⟩)
  | (go_ret;exact ⟨rfl,KN.from HB.out K2.out⟩)
  | trace_state
include A in
theorem does_yield {W w:World}{x n:Nat}{S:Nat->Prop}{K:RM}(h:KS Rep W w x S K n) (hn:n<=1000000000000000) (c:Ac) (s:Sv) (ha:AcOk W c s) (N:Nat) (hk:pickI c.kd 12=2) :
  Calls Tryz.prog 27 #[.pointer (some ⟨x,0,none⟩),.agg (acA c s),.int .i64 N] w fun e w'=>e=.returned (.tuple #[])/\KN Rep W w x S (doesM N c K) (n+1) w':=by
 have hb:Below w.heap.size w (w.alloc (.cells (acA c s) 63)):=(Below.refl _ w).alloc (Nat.le_refl _) _
 have HB:=hid hb
 have H:=hid (h.below A hb)
 have HA:=hid ha
 have PK:=hid (fun w=>pickK_any c.kd 12 w ha.b0.1 ha.b0.2 (by omega) (by omega))
 have hwn:=heap_alloc_new w (.cells (acA c s) 63)
 obtain ⟨wa,hwa⟩:∃ wa,w.alloc (.cells (acA c s) 63)=wa:=⟨_,rfl⟩
 rw [hwa] at HB H hwn
 have lw:w.heap.size < wa.heap.size:=by rw [<- hwa];simp
 have gg0:wa.cell? ⟨w.heap.size,0,none⟩=some (.int .i64 c.kd):=(cell_of_row _ _ 0 _ _ _ hwn).trans rfl
 have gg1:wa.cell? ⟨w.heap.size,1,none⟩=some (.int .i64 c.A):=(cell_of_row _ _ 1 _ _ _ hwn).trans rfl
 have gg2:wa.cell? ⟨w.heap.size,2,none⟩=some (.int .i64 c.B):=(cell_of_row _ _ 2 _ _ _ hwn).trans rfl
 have gg3:wa.cell? ⟨w.heap.size,3,none⟩=some (.int .i64 c.C):=(cell_of_row _ _ 3 _ _ _ hwn).trans rfl
 have HN:=hid hwn
 clear hb hwn h
 have e0:pickI c.kd 12=2:=hk
 rw [e0] at PK
 have ed:doesM N c K=K.yield.2:=by unfold doesM;rw [if_neg (by omega),if_pos hk]
 rw [ed]
 have C:=hid (ks_yield A H.out hn)
 clear e0 ed hk
 have HWA:=hid hwa
 clear hwa ha
 go_enter Tryz.func27,Tryz.ntmps27
 go_wp2_with fail
 rw [HWA.out]
 refine (PK.out _).mono ?_
 rintro e w1 ⟨rfl,rfl⟩
 go_wp2_with ((go_at_call 22;refine C.out.mono ?_;rintro e w2 ⟨rfl,K2⟩;replace K2:=hid K2))
 first
  | (go_end0;exact ⟨rfl,KN.from HB.out K2.out⟩)
  | (refine bodyPost_ret (results_none rfl _ _ _) rfl ?_;exact ⟨rfl,KN.from HB.out K2.out⟩)
  | (go_ret;exact ⟨rfl,KN.from HB.out K2.out⟩)
  | trace_state
include A in
theorem does_store {W w:World}{x n:Nat}{S:Nat->Prop}{K:RM}(h:KS Rep W w x S K n) (_hn:n<=1000000000000000) (c:Ac) (s:Sv) (ha:AcOk W c s) (N:Nat) (hk:pickI c.kd 12=3) :
  Calls Tryz.prog 27 #[.pointer (some ⟨x,0,none⟩),.agg (acA c s),.int .i64 N] w fun e w'=>e=.returned (.tuple #[])/\KN Rep W w x S (doesM N c K) (n+1) w':=by
 have hb:Below w.heap.size w (w.alloc (.cells (acA c s) 63)):=(Below.refl _ w).alloc (Nat.le_refl _) _
 have HB:=hid hb
 have H:=hid (h.below A hb)
 have HA:=hid ha
 have PK:=hid (fun w=>pickK_any c.kd 12 w ha.b0.1 ha.b0.2 (by omega) (by omega))
 have hwn:=heap_alloc_new w (.cells (acA c s) 63)
 obtain ⟨wa,hwa⟩:∃ wa,w.alloc (.cells (acA c s) 63)=wa:=⟨_,rfl⟩
 rw [hwa] at HB H hwn
 have lw:w.heap.size < wa.heap.size:=by rw [<- hwa];simp
 have gg0:wa.cell? ⟨w.heap.size,0,none⟩=some (.int .i64 c.kd):=(cell_of_row _ _ 0 _ _ _ hwn).trans rfl
 have gg1:wa.cell? ⟨w.heap.size,1,none⟩=some (.int .i64 c.A):=(cell_of_row _ _ 1 _ _ _ hwn).trans rfl
 have gg2:wa.cell? ⟨w.heap.size,2,none⟩=some (.int .i64 c.B):=(cell_of_row _ _ 2 _ _ _ hwn).trans rfl
 have gg3:wa.cell? ⟨w.heap.size,3,none⟩=some (.int .i64 c.C):=(cell_of_row _ _ 3 _ _ _ hwn).trans rfl
 have HN:=hid hwn
 clear hb hwn h
 have e0:pickI c.kd 12=3:=hk
 rw [e0] at PK
 have ed:doesM N c K=K.stored (pickI c.A 6) (pickI c.B 4) c.C:=by unfold doesM;rw [if_neg (by omega),if_neg (by omega),if_pos hk]
 rw [ed]
 have PA:=hid (fun w=>pickK_any c.A 6 w ha.b1.1 ha.b1.2 (by omega) (by omega))
 have PB:=hid (fun w=>pickK_any c.B 4 w ha.b2.1 ha.b2.2 (by omega) (by omega))
 have C:=hid (ks_store A (H.out.below A (Below.refl _ wa).drew) (pickI c.A 6) (pickI c.B 4) c.C)
 clear e0 ed hk
 have HWA:=hid hwa
 clear hwa ha
 go_enter Tryz.func27,Tryz.ntmps27
 go_wp2_with fail
 rw [HWA.out]
 refine (PK.out _).mono ?_
 rintro e w1 ⟨rfl,rfl⟩
 go_wp2_with fail
 refine wp_region_still_tail (l:=ops27a) 9 mxk lex27a ?_
 simp only [List.take_succ_cons,List.take_zero,List.drop_succ_cons,List.drop_zero]
 still_step
 still_step
 still_step
 still_call (PA.out _)
 still_step
 still_step
 still_call (PB.out _)
 still_step
 still_step
 refine wpStill_nil ?_
 go_wp2_with (go_at_call 39;refine C.out.mono ?_;rintro e w2 ⟨rfl,K2⟩;replace K2:=hid (KN.from (w:=w1) (Below.refl _ _).drew K2))
 first
  | (go_end0;exact ⟨rfl,KN.from HB.out K2.out⟩)
  | (refine bodyPost_ret (results_none rfl _ _ _) rfl ?_;exact ⟨rfl,KN.from HB.out K2.out⟩)
  | (go_ret;exact ⟨rfl,KN.from HB.out K2.out⟩)
  | trace_state
include A in
theorem does_unmap {W w:World}{x n:Nat}{S:Nat->Prop}{K:RM}(h:KS Rep W w x S K n) (_hn:n<=1000000000000000) (c:Ac) (s:Sv) (ha:AcOk W c s) (N:Nat) (hk:pickI c.kd 12=4) :
  Calls Tryz.prog 27 #[.pointer (some ⟨x,0,none⟩),.agg (acA c s),.int .i64 N] w fun e w'=>e=.returned (.tuple #[])/\KN Rep W w x S (doesM N c K) (n+1) w':=by
 have hb:Below w.heap.size w (w.alloc (.cells (acA c s) 63)):=(Below.refl _ w).alloc (Nat.le_refl _) _
 have HB:=hid hb
 have H:=hid (h.below A hb)
 have HA:=hid ha
 have PK:=hid (fun w=>pickK_any c.kd 12 w ha.b0.1 ha.b0.2 (by omega) (by omega))
 have hwn:=heap_alloc_new w (.cells (acA c s) 63)
 obtain ⟨wa,hwa⟩:∃ wa,w.alloc (.cells (acA c s) 63)=wa:=⟨_,rfl⟩
 rw [hwa] at HB H hwn
 have lw:w.heap.size < wa.heap.size:=by rw [<- hwa];simp
 have gg0:wa.cell? ⟨w.heap.size,0,none⟩=some (.int .i64 c.kd):=(cell_of_row _ _ 0 _ _ _ hwn).trans rfl
 have gg1:wa.cell? ⟨w.heap.size,1,none⟩=some (.int .i64 c.A):=(cell_of_row _ _ 1 _ _ _ hwn).trans rfl
 have gg2:wa.cell? ⟨w.heap.size,2,none⟩=some (.int .i64 c.B):=(cell_of_row _ _ 2 _ _ _ hwn).trans rfl
 have gg3:wa.cell? ⟨w.heap.size,3,none⟩=some (.int .i64 c.C):=(cell_of_row _ _ 3 _ _ _ hwn).trans rfl
 have HN:=hid hwn
 clear hb hwn h
 have e0:pickI c.kd 12=4:=hk
 rw [e0] at PK
 have ed:doesM N c K=(K.unmap (pickI c.A 6) (c.B.tmod 2 == 0)).2:=by unfold doesM;rw [if_neg (by omega),if_neg (by omega),if_neg (by omega),if_pos hk]
 rw [ed]
 have PA:=hid (fun w=>pickK_any c.A 6 w ha.b1.1 ha.b1.2 (by omega) (by omega))
 have C:=hid (ks_unmap A (H.out.below A (Below.refl _ wa).drew) (pickI c.A 6) (c.B.tmod 2 == 0))
 have n2:((2:Int) == 0)=false:=by decide
 have t2:IntKind.i64.wrap (c.B.tmod 2)=c.B.tmod 2:=wrap_in (tmod_in (by omega)).1 (tmod_in (by omega)).2
 clear e0 ed hk
 have HWA:=hid hwa
 clear hwa ha
 go_enter Tryz.func27,Tryz.ntmps27
 go_wp2_with fail
 rw [HWA.out]
 refine (PK.out _).mono ?_
 rintro e w1 ⟨rfl,rfl⟩
 go_wp2_with fail
 refine wp_region_still_tail (l:=ops27b) 8 mxk lex27b ?_
 simp only [List.take_succ_cons,List.take_zero,List.drop_succ_cons,List.drop_zero]
 still_step
 still_step
 still_step
 still_call (PA.out _)
 still_step
 still_step
 still_step
 still_step
 refine wpStill_nil ?_
 go_wp2_with (go_at_call 30;refine C.out.mono ?_;rintro e w2 ⟨rfl,K2⟩;replace K2:=hid (KN.from (w:=w1) (Below.refl _ _).drew K2))
 first
  | (go_end0;exact ⟨rfl,KN.from HB.out K2.out⟩)
  | (refine bodyPost_ret (results_none rfl _ _ _) rfl ?_;exact ⟨rfl,KN.from HB.out K2.out⟩)
  | (go_ret;exact ⟨rfl,KN.from HB.out K2.out⟩)
  | trace_state
include A in
theorem does_derive {W w:World}{x n:Nat}{S:Nat->Prop}{K:RM}(h:KS Rep W w x S K n) (_hn:n<=1000000000000000) (c:Ac) (s:Sv) (ha:AcOk W c s) (N:Nat) (hk:pickI c.kd 12=5) :
  Calls Tryz.prog 27 #[.pointer (some ⟨x,0,none⟩),.agg (acA c s),.int .i64 N] w fun e w'=>e=.returned (.tuple #[])/\KN Rep W w x S (doesM N c K) (n+1) w':=by
 have hb:Below w.heap.size w (w.alloc (.cells (acA c s) 63)):=(Below.refl _ w).alloc (Nat.le_refl _) _
 have HB:=hid hb
 have H:=hid (h.below A hb)
 have HA:=hid ha
 have PK:=hid (fun w=>pickK_any c.kd 12 w ha.b0.1 ha.b0.2 (by omega) (by omega))
 have hwn:=heap_alloc_new w (.cells (acA c s) 63)
 obtain ⟨wa,hwa⟩:∃ wa,w.alloc (.cells (acA c s) 63)=wa:=⟨_,rfl⟩
 rw [hwa] at HB H hwn
 have lw:w.heap.size < wa.heap.size:=by rw [<- hwa];simp
 have gg0:wa.cell? ⟨w.heap.size,0,none⟩=some (.int .i64 c.kd):=(cell_of_row _ _ 0 _ _ _ hwn).trans rfl
 have gg1:wa.cell? ⟨w.heap.size,1,none⟩=some (.int .i64 c.A):=(cell_of_row _ _ 1 _ _ _ hwn).trans rfl
 have gg2:wa.cell? ⟨w.heap.size,2,none⟩=some (.int .i64 c.B):=(cell_of_row _ _ 2 _ _ _ hwn).trans rfl
 have gg3:wa.cell? ⟨w.heap.size,3,none⟩=some (.int .i64 c.C):=(cell_of_row _ _ 3 _ _ _ hwn).trans rfl
 have HN:=hid hwn
 clear hb hwn h
 have e0:pickI c.kd 12=5:=hk
 rw [e0] at PK
 have ed:doesM N c K=(K.derive (pickI c.A 6) (pickI c.B 6) (1+pickI c.C 3)).2:=by unfold doesM;rw [if_neg (by omega),if_neg (by omega),if_neg (by omega),if_neg (by omega),if_pos hk]
 rw [ed]
 have PA:=hid (fun w=>pickK_any c.A 6 w ha.b1.1 ha.b1.2 (by omega) (by omega))
 have PB:=hid (fun w=>pickK_any c.B 6 w ha.b2.1 ha.b2.2 (by omega) (by omega))
 have PC:=hid (fun w=>pickK_any c.C 3 w ha.b3.1 ha.b3.2 (by omega) (by omega))
 have C:=hid (ks_derive A (H.out.below A (Below.refl _ wa).drew) (pickI c.A 6) (pickI c.B 6) (1+pickI c.C 3))
 have rC:=pickI_in c.C (n:=3) (by omega)
 have wC:IntKind.i64.wrap (1+pickI c.C 3)=1+pickI c.C 3:=wrap_in (by omega) (by omega)
 clear e0 ed hk
 have HWA:=hid hwa
 clear hwa ha
 go_enter Tryz.func27,Tryz.ntmps27
 go_wp2_with fail
 rw [HWA.out]
 refine (PK.out _).mono ?_
 rintro e w1 ⟨rfl,rfl⟩
 go_wp2_with fail
 refine wp_region_still_tail (l:=ops27c) 11 mxk lex27c ?_
 simp only [List.take_succ_cons,List.take_zero,List.drop_succ_cons,List.drop_zero]
 still_step
 still_step
 still_step
 still_call (PA.out _)
 still_step
 still_step
 still_call (PB.out _)
 still_step
 still_step
 still_call (PC.out _)
 still_step
 refine wpStill_nil ?_
 go_wp2_with (go_at_call 48;refine C.out.mono ?_;rintro e w2 ⟨rfl,K2⟩;replace K2:=hid (KN.from (w:=w1) (Below.refl _ _).drew K2))
 first
  | (go_end0;exact ⟨rfl,KN.from HB.out K2.out⟩)
  | (refine bodyPost_ret (results_none rfl _ _ _) rfl ?_;exact ⟨rfl,KN.from HB.out K2.out⟩)
  | (go_ret;exact ⟨rfl,KN.from HB.out K2.out⟩)
  | trace_state
include A in
theorem does_drop {W w:World}{x n:Nat}{S:Nat->Prop}{K:RM}(h:KS Rep W w x S K n) (_hn:n<=1000000000000000) (c:Ac) (s:Sv) (ha:AcOk W c s) (N:Nat) (hk:pickI c.kd 12=6) (h4:c.B.tmod 4=0) :
  Calls Tryz.prog 27 #[.pointer (some ⟨x,0,none⟩),.agg (acA c s),.int .i64 N] w fun e w'=>e=.returned (.tuple #[])/\KN Rep W w x S (doesM N c K) (n+1) w':=by
 have hb:Below w.heap.size w (w.alloc (.cells (acA c s) 63)):=(Below.refl _ w).alloc (Nat.le_refl _) _
 have HB:=hid hb
 have H:=hid (h.below A hb)
 have HA:=hid ha
 have PK:=hid (fun w=>pickK_any c.kd 12 w ha.b0.1 ha.b0.2 (by omega) (by omega))
 have hwn:=heap_alloc_new w (.cells (acA c s) 63)
 obtain ⟨wa,hwa⟩:∃ wa,w.alloc (.cells (acA c s) 63)=wa:=⟨_,rfl⟩
 rw [hwa] at HB H hwn
 have lw:w.heap.size < wa.heap.size:=by rw [<- hwa];simp
 have gg0:wa.cell? ⟨w.heap.size,0,none⟩=some (.int .i64 c.kd):=(cell_of_row _ _ 0 _ _ _ hwn).trans rfl
 have gg1:wa.cell? ⟨w.heap.size,1,none⟩=some (.int .i64 c.A):=(cell_of_row _ _ 1 _ _ _ hwn).trans rfl
 have gg2:wa.cell? ⟨w.heap.size,2,none⟩=some (.int .i64 c.B):=(cell_of_row _ _ 2 _ _ _ hwn).trans rfl
 have gg3:wa.cell? ⟨w.heap.size,3,none⟩=some (.int .i64 c.C):=(cell_of_row _ _ 3 _ _ _ hwn).trans rfl
 have HN:=hid hwn
 clear hb hwn h
 have e0:pickI c.kd 12=6:=hk
 rw [e0] at PK
 have ed:doesM N c K=(K.drop (pickI c.A 6)).2:=by unfold doesM;rw [if_neg (by omega),if_neg (by omega),if_neg (by omega),if_neg (by omega),if_neg (by omega),if_pos hk,if_pos h4]
 rw [ed]
 have PA:=hid (fun w=>pickK_any c.A 6 w ha.b1.1 ha.b1.2 (by omega) (by omega))
 have C:=hid (ks_drop A H.out (pickI c.A 6))
 have n2:((4:Int) == 0)=false:=by decide
 have t2:IntKind.i64.wrap (c.B.tmod 4)=0:=by rw [h4];decide
 clear e0 ed hk
 have HWA:=hid hwa
 clear hwa ha
 go_enter Tryz.func27,Tryz.ntmps27
 go_wp2_with fail
 rw [HWA.out]
 refine (PK.out _).mono ?_
 rintro e w1 ⟨rfl,rfl⟩
 go_wp2_with (first | (go_at_call 49;refine C.out.mono ?_;rintro e w2 ⟨rfl,K2⟩;replace K2:=hid K2) | (go_at_call 16;with_reducible refine (PA.out _).mono ?_;rintro e w5 ⟨rfl,rfl⟩))
 first
  | (go_end0;exact ⟨rfl,KN.from HB.out K2.out⟩)
  | (refine bodyPost_ret (results_none rfl _ _ _) rfl ?_;exact ⟨rfl,KN.from HB.out K2.out⟩)
  | (go_ret;exact ⟨rfl,KN.from HB.out K2.out⟩)
  | trace_state
include A in
theorem does_tick6 {W w:World}{x n:Nat}{S:Nat->Prop}{K:RM}(h:KS Rep W w x S K n) (hn:n<=1000000000000000) (c:Ac) (s:Sv) (ha:AcOk W c s) (N:Nat) (hk:pickI c.kd 12=6) (h4:¬ c.B.tmod 4=0) :
  Calls Tryz.prog 27 #[.pointer (some ⟨x,0,none⟩),.agg (acA c s),.int .i64 N] w fun e w'=>e=.returned (.tuple #[])/\KN Rep W w x S (doesM N c K) (n+1) w':=by
 have hb:Below w.heap.size w (w.alloc (.cells (acA c s) 63)):=(Below.refl _ w).alloc (Nat.le_refl _) _
 have HB:=hid hb
 have H:=hid (h.below A hb)
 have HA:=hid ha
 have PK:=hid (fun w=>pickK_any c.kd 12 w ha.b0.1 ha.b0.2 (by omega) (by omega))
 have hwn:=heap_alloc_new w (.cells (acA c s) 63)
 obtain ⟨wa,hwa⟩:∃ wa,w.alloc (.cells (acA c s) 63)=wa:=⟨_,rfl⟩
 rw [hwa] at HB H hwn
 have lw:w.heap.size < wa.heap.size:=by rw [<- hwa];simp
 have gg0:wa.cell? ⟨w.heap.size,0,none⟩=some (.int .i64 c.kd):=(cell_of_row _ _ 0 _ _ _ hwn).trans rfl
 have gg1:wa.cell? ⟨w.heap.size,1,none⟩=some (.int .i64 c.A):=(cell_of_row _ _ 1 _ _ _ hwn).trans rfl
 have gg2:wa.cell? ⟨w.heap.size,2,none⟩=some (.int .i64 c.B):=(cell_of_row _ _ 2 _ _ _ hwn).trans rfl
 have gg3:wa.cell? ⟨w.heap.size,3,none⟩=some (.int .i64 c.C):=(cell_of_row _ _ 3 _ _ _ hwn).trans rfl
 have HN:=hid hwn
 clear hb hwn h
 have e0:pickI c.kd 12=6:=hk
 rw [e0] at PK
 have ed:doesM N c K=K.tick:=by unfold doesM;rw [if_neg (by omega),if_neg (by omega),if_neg (by omega),if_neg (by omega),if_neg (by omega),if_pos hk,if_neg h4]
 rw [ed]
 have C:=hid (ks_tick A H.out hn)
 have n2:((4:Int) == 0)=false:=by decide
 have t2:IntKind.i64.wrap (c.B.tmod 4)=c.B.tmod 4:=wrap_in (tmod_in (by omega)).1 (tmod_in (by omega)).2
 have d4:(c.B.tmod 4 == 0)=false:=by simpa using h4
 clear e0 ed hk h4
 have HWA:=hid hwa
 clear hwa ha
 go_enter Tryz.func27,Tryz.ntmps27
 go_wp2_with fail
 rw [HWA.out]
 refine (PK.out _).mono ?_
 rintro e w1 ⟨rfl,rfl⟩
 go_wp2_with (go_at_call 19;refine C.out.mono ?_;rintro e w2 ⟨rfl,K2⟩;replace K2:=hid K2)
 first
  | (go_end0;exact ⟨rfl,KN.from HB.out K2.out⟩)
  | (refine bodyPost_ret (results_none rfl _ _ _) rfl ?_;exact ⟨rfl,KN.from HB.out K2.out⟩)
  | (go_ret;exact ⟨rfl,KN.from HB.out K2.out⟩)
  | trace_state
include A in
theorem does_ipc {W w:World}{x n:Nat}{S:Nat->Prop}{K:RM}(h:KS Rep W w x S K n) (hn:n<=1000000000000000) (c:Ac) (s:Sv) (ha:AcOk W c s) (N:Nat) (hN:N<=6) (pk:Int) (he:pickI c.kd 12=pk) (hk:6 < pk) :
  Calls Tryz.prog 27 #[.pointer (some ⟨x,0,none⟩),.agg (acA c s),.int .i64 N] w fun e w'=>e=.returned (.tuple #[])/\KN Rep W w x S (doesM N c K) (n+1) w':=by
 have hb:Below w.heap.size w (w.alloc (.cells (acA c s) 63)):=(Below.refl _ w).alloc (Nat.le_refl _) _
 have HB:=hid hb
 have H:=hid (h.below A hb)
 have HA:=hid ha
 have PK:=hid (fun w=>pickK_any c.kd 12 w ha.b0.1 ha.b0.2 (by omega) (by omega))
 have hwn:=heap_alloc_new w (.cells (acA c s) 63)
 obtain ⟨wa,hwa⟩:∃ wa,w.alloc (.cells (acA c s) 63)=wa:=⟨_,rfl⟩
 rw [hwa] at HB H hwn
 have lw:w.heap.size < wa.heap.size:=by rw [<- hwa];simp
 have gg0:wa.cell? ⟨w.heap.size,0,none⟩=some (.int .i64 c.kd):=(cell_of_row _ _ 0 _ _ _ hwn).trans rfl
 have gg1:wa.cell? ⟨w.heap.size,1,none⟩=some (.int .i64 c.A):=(cell_of_row _ _ 1 _ _ _ hwn).trans rfl
 have gg2:wa.cell? ⟨w.heap.size,2,none⟩=some (.int .i64 c.B):=(cell_of_row _ _ 2 _ _ _ hwn).trans rfl
 have gg3:wa.cell? ⟨w.heap.size,3,none⟩=some (.int .i64 c.C):=(cell_of_row _ _ 3 _ _ _ hwn).trans rfl
 have HN:=hid hwn
 clear hb hwn h
 rw [he] at PK
 have ed:doesM N c K=(K.ipc (actM c N)).2:=by unfold doesM;rw [if_neg (by omega),if_neg (by omega),if_neg (by omega),if_neg (by omega),if_neg (by omega),if_neg (by omega)]
 rw [ed]
 have HW1:=hid (fun (w':World) (hb:Below wa.heap.size wa w')=>(ha.wd.below (by omega) (H.out.bel.trans (hb.mono H.out.bel.size)):Inl w' 1 (.slice s.a s.n s.c) (c.ws.map lnI)))
 have ha1:AcOk wa c s:=⟨ha.b0,ha.b1,ha.b2,ha.b3,ha.b4,ha.b5,ha.wd.below (by omega) H.out.bel,ha.ln,ha.cp⟩
 have CM:=hid (message_any c s N wa ha1 hN)
 have CI:=hid (fun (w':World) (hb:Below wa.heap.size wa w')=>ks_ipc A (H.out.below A hb) hn (actM c N) s.a s.c (Inl.take4 (HW1.out w' hb) ha.ln rfl) (fun k hk hS=>by
  have h1:k < W.heap.size:=(Inl.take4 ha.wd ha.ln rfl).inltK (by omega) hk
  have:=H.out.new k hS
  omega))
 have d0:(pk == 0)=false:=by rw [beq_eq_false_iff_ne];omega
 have d1:(pk == 1)=false:=by rw [beq_eq_false_iff_ne];omega
 have d2:(pk == 2)=false:=by rw [beq_eq_false_iff_ne];omega
 have d3:(pk == 3)=false:=by rw [beq_eq_false_iff_ne];omega
 have d4:(pk == 4)=false:=by rw [beq_eq_false_iff_ne];omega
 have d5:(pk == 5)=false:=by rw [beq_eq_false_iff_ne];omega
 have d6:(pk == 6)=false:=by rw [beq_eq_false_iff_ne];omega
 have R63:=hid (show wa.rangeAt w.heap.size 0 (acA c s).toList from fun j v hv=>by rw [cell_of_row _ _ (0+j) _ _ _ HN.out,Nat.zero_add];simpa using hv)
 clear ed hk he HW1 ha1
 have HWA:=hid hwa
 clear hwa ha
 go_enter Tryz.func27,Tryz.ntmps27
 go_wp2_with fail
 rw [HWA.out]
 refine (PK.out _).mono ?_
 rintro e w1 ⟨rfl,rfl⟩
 go_wp2_with (first
  | (go_at_call 50;refine CM.out.mono ?_;rintro e w3 ⟨rfl,b3⟩;have CI3:=hid (CI.out _ b3);replace b3:=hid b3)
  | (go_at_call 23;refine CI3.out.mono ?_;rintro e w2 ⟨rfl,K2⟩;replace K2:=hid (KN.from b3.out K2))
  | (with_reducible (show wpList _ _ _ (⟨_,.load 63 _,_,_,_,none⟩ :: _) _ _);go_must (refine wpList_load_mid rfl 63 _ rfl w.heap.size 0 rfl _ _ R63.out Tryz.underlying63 rfl (by kernel_rfl) ?_)))
 first
  | (go_end0;exact ⟨rfl,KN.from HB.out K2.out⟩)
  | (refine bodyPost_ret (results_none rfl _ _ _) rfl ?_;exact ⟨rfl,KN.from HB.out K2.out⟩)
  | (go_ret;exact ⟨rfl,KN.from HB.out K2.out⟩)
  | trace_state
include A in
theorem does_any {W w:World}{x n:Nat}{S:Nat->Prop}{K:RM}(h:KS Rep W w x S K n) (hn:n<=1000000000000000) (c:Ac) (s:Sv) (ha:AcOk W c s) (N:Nat) (hN:N<=6) :
  Calls Tryz.prog 27 #[.pointer (some ⟨x,0,none⟩),.agg (acA c s),.int .i64 N] w fun e w'=>e=.returned (.tuple #[])/\KN Rep W w x S (doesM N c K) (n+1) w':=by
 have h0:=(pickI_in c.kd (n:=12) (by omega)).1
 by_cases g0:pickI c.kd 12=0
 ·exact does_tick0 A h hn c s ha N g0
 by_cases g1:pickI c.kd 12=1
 ·exact does_tick1 A h hn c s ha N g1
 by_cases g2:pickI c.kd 12=2
 ·exact does_yield A h hn c s ha N g2
 by_cases g3:pickI c.kd 12=3
 ·exact does_store A h hn c s ha N g3
 by_cases g4:pickI c.kd 12=4
 ·exact does_unmap A h hn c s ha N g4
 by_cases g5:pickI c.kd 12=5
 ·exact does_derive A h hn c s ha N g5
 by_cases g6:pickI c.kd 12=6
 ·by_cases h4:c.B.tmod 4=0
  ·exact does_drop A h hn c s ha N g6 h4
  ·exact does_tick6 A h hn c s ha N g6 h4
 exact does_ipc A h hn c s ha N hN _ rfl (by omega)
end
open Go.RowKit
theorem Tryz.infoK55:(Tryz.prog.info? 55).map (fun i=>(i.zero,i.size,i.bytes))=some (some (.agg #[.int .i64 0,.int .i64 0,.int .i64 0,.int .i64 0]),4,32):=by kernel_rfl
theorem Tryz.infoK67:(Tryz.prog.info? 67).map (fun i=>(i.zero,i.size,i.bytes))=some (some (.agg #[.int .i64 0,.int .i64 0,.int .i64 0,.int .i64 0]),4,32):=by kernel_rfl
def CfgOut (ap:Bool) (w:World) (e:Ending) (w':World):Prop:=∃ (T:List (Int×Int)) (Q L:List (Int×Int×Int×Int)) (a1 a2 a3:Option Addr) (c1 c2 c3:Nat),
 e=.returned (.agg #[.int .i64 3,.slice a1 T.length c1,.slice a2 Q.length c2,.slice a3 L.length c3])/\Inl w' 2 (.slice a1 T.length c1) (T.map tRow)/\Inl w' 4 (.slice a2 Q.length c2) (Q.map qRow)/\Inl w' 4 (.slice a3 L.length c3) (L.map qRow)/\Below w.heap.size w w' /\
 Fits 3 T Q L/\FrAp L/\(ap=true->∀ p∈Q,p.1=0↔Z0 T p.2.2.1.toNat)
structure QOk (pa:Bool) (T:List (Int×Int)) (k:Nat) (Q:List (Int×Int×Int×Int)):Prop where
 ok:∀ p∈Q,okQ 3 ((k:Int)-1) p
 ap:Apart Q
 z:pa=true->∀ p∈Q,p.1=0↔Z0 T p.2.2.1.toNat
theorem apart_add {Q:List (Int×Int×Int×Int)}{x:Int×Int×Int×Int}(h:Apart Q) (hx:∀ (i:Nat) q,i < Q.length->Q[i]? = some q->¬ (q.1=x.1/\q.2.1=x.2.1)):Apart (Q ++ [x]):=by
 rw [apart_iff] at h ⊢
 refine List.pairwise_append.2 ⟨h,by simp,fun a ha b hb=>?_⟩
 rw [List.mem_singleton] at hb
 subst hb
 obtain ⟨i,hi⟩:=List.getElem?_of_mem ha
 exact hx i a (List.getElem?_eq_some_iff.1 hi).1 hi
theorem QOk.nil (ap:Bool) (T:List (Int×Int)) (k:Nat):QOk ap T k []:=⟨by simp,fun i k p q _ h=>by simp at h,by simp⟩
theorem QOk.len {ap:Bool}{T:List (Int×Int)}{k:Nat}{Q:List (Int×Int×Int×Int)}(h:QOk ap T k Q):Q.length<=18:=q18 (sp:=3) (by omega) (fun i p hp=>h.ok p (List.mem_of_getElem? hp)) h.ap
theorem QOk.add {ap:Bool}{T:List (Int×Int)}{k:Nat}{Q:List (Int×Int×Int×Int)}(h:QOk ap T k Q){x:Int×Int×Int×Int}(ho:okQ 3 ((k:Int)-1) x) (hx:∀ (i:Nat) q,i < Q.length->Q[i]? = some q->¬ (q.1=x.1/\q.2.1=x.2.1)) (hz:ap=true->(x.1=0↔Z0 T x.2.2.1.toNat)):QOk ap T k (Q ++ [x]):=
 ⟨fun p hp=>by
  rcases List.mem_append.1 hp with hp | hp
  ·exact h.ok p hp
  ·rw [List.mem_singleton] at hp;subst hp;exact ho,apart_add h.ap hx,fun e p hp=>by
  rcases List.mem_append.1 hp with hp | hp
  ·exact h.z e p hp
  ·rw [List.mem_singleton] at hp;subst hp;exact hz e⟩
structure LfOk (n:Nat) (L:List (Int×Int×Int×Int)):Prop where
 ok:∀ p∈L,okQ 3 7 p
 ap:Apart L
 fr:L.Pairwise (fun a b=>a.2.2.1 < b.2.2.1)
 lt:∀ p∈L,p.2.2.1 < n
theorem LfOk.nil:LfOk 0 []:=⟨by simp,fun i k p q _ h=>by simp at h,by simp,by simp⟩
theorem LfOk.len {n:Nat}{Q:List (Int×Int×Int×Int)}(h:LfOk n Q):Q.length<=18:=q18 (sp:=3) (h:=7) (by omega) (fun i p hp=>h.ok p (List.mem_of_getElem? hp)) h.ap
theorem LfOk.skip {n:Nat}{Q:List (Int×Int×Int×Int)}(h:LfOk n Q):LfOk (n+1) Q:=⟨h.ok,h.ap,h.fr,fun p hp=>by have:=h.lt p hp;omega⟩
theorem LfOk.add {n:Nat}{Q:List (Int×Int×Int×Int)}(h:LfOk n Q){x:Int×Int×Int×Int}(ho:okQ 3 7 x) (hx:∀ (i:Nat) q,i < Q.length->Q[i]? = some q->¬ (q.1=x.1/\q.2.1=x.2.1)) (hn:x.2.2.1=n):LfOk (n+1) (Q ++ [x]):=
 ⟨fun p hp=>by
  rcases List.mem_append.1 hp with hp | hp
  ·exact h.ok p hp
  ·rw [List.mem_singleton] at hp;subst hp;exact ho,apart_add h.ap hx,List.pairwise_append.2 ⟨h.fr,by simp,fun a ha b hb=>by rw [List.mem_singleton] at hb;subst hb;have:=h.lt a ha;omega⟩,fun p hp=>by
  rcases List.mem_append.1 hp with hp | hp
  ·have:=h.lt p hp;omega
  ·rw [List.mem_singleton] at hp;subst hp;omega⟩
theorem pw_eq {L:List (Int×Int×Int×Int)}(h:L.Pairwise (fun a b=>a.2.2.1 < b.2.2.1)):FrAp L:=by
 induction L with
 | nil=>intro a ha;simp at ha
 | cons x L ih=>
  rw [List.pairwise_cons] at h
  intro a ha b hb e
  rcases List.mem_cons.1 ha with ea | ha' <;> rcases List.mem_cons.1 hb with eb | hb'
  ·rw [ea,eb]
  ·subst ea;have:=h.1 b hb';omega
  ·subst eb;have:=h.1 a ha';omega
  ·exact ih h.2 a ha' b hb' e
theorem LfOk.frap {n:Nat}{L:List (Int×Int×Int×Int)}(h:LfOk n L):FrAp L:=pw_eq h.fr
theorem plan_cell {W w:World}{B:Nat}{cs:Array Value}{t:TypeId}(hb:Below W.heap.size W w) (hP:W.heap[B]? = some (.cells cs t (0,0))) (hl:B < W.heap.size) (j:Nat):w.cell? ⟨B,j,none⟩=cs[j]?:=cell_of_row w B j _ _ _ ((hb.block B hl).trans hP)
theorem word_at2 {w:World}{b o n c:Nat}{l:List Int}(h:Inl w 1 (.slice (some ⟨b,o,none⟩) n c) (l.map lnI)){k:Nat}{z:Int}(hz:l[k]? = some z):w.cell? ⟨b,o+k,none⟩=some (.int .i64 z):=by
 obtain ⟨b',o',e,h2⟩:=word_at h hz
 simp only [Option.some.injEq,Addr.mk.injEq] at e
 obtain ⟨rfl,rfl,_⟩:=e
 exact h2
theorem NoPl.imp_len {Q:List (Int×Int×Int×Int)}{a b:Int}{m:Nat}(h:∀ (i:Nat) y,i < m->Q[i]? = some y->¬ (y.1=a/\y.2.1=b)) (hl:Q.length=m):∀ (i:Nat) q,i < Q.length->Q[i]? = some q->¬ (q.1=a/\q.2.1=b):=fun i q hi hq=>h i q (by omega) hq
theorem cfg_out {ap:Bool}{w W wc:World}{T:List (Int×Int)}{Q L:List (Int×Int×Int×Int)}{a1 a2 a3:Option Addr}{k c1 m2 c2 m3 c3:Nat}(h:CfgAt W wc (w.heap.size+1+1) 3 T Q L (.slice a1 k c1) (.slice a2 m2 c2) (.slice a3 m3 c3)) (z2:W.heap.size=w.heap.size+1+1) (bW:Below w.heap.size w W)
  (lT:T.length=k) (oT:∀ p∈T,okT 3 p) (k6:k<=6) (k1:1<=k) (lQ:Q.length=m2) (oQ:QOk ap T k Q) (lL:L.length=m3) (oL:∃ j,LfOk j L):CfgOut ap w (.returned (.agg #[.int .i64 3,.slice a1 k c1,.slice a2 m2 c2,.slice a3 m3 c3])) (wc.setRow (w.heap.size+1) #[.int .i64 3,.slice a1 k c1,.slice a2 m2 c2,.slice a3 m3 c3]):=by
 obtain ⟨j,oL⟩:=oL
 have F:Fr (fun q=>q=w.heap.size+1) wc (wc.setRow (w.heap.size+1) #[.int .i64 3,.slice a1 k c1,.slice a2 m2 c2,.slice a3 m3 c3]):=(Fr.refl (fun q=>q=w.heap.size+1) _).setRow (fun _=>rfl) _
 have b2:Below w.heap.size w wc:=bW.trans (h.bel.mono bW.size)
 have l2:=oQ.len
 have l3:=oL.len
 subst lT lQ lL
 refine ⟨T,Q,L,a1,a2,a3,c1,c2,c3,rfl,(h.sT.kept F (fun q hq e=>?_)).inlT (by omega),(h.sP.kept F (fun q hq e=>?_)).inlQ (by omega),(h.sL.kept F (fun q hq e=>?_)).inlQ (by omega),b2.trans (F.to_below b2.size (fun q e=>by omega)),⟨⟨by omega,by omega⟩,⟨k1,k6⟩,fun i p hp=>oT p (List.mem_of_getElem? hp),fun i p hp=>oQ.ok p (List.mem_of_getElem? hp),oQ.ap,fun i p hp=>oL.ok p (List.mem_of_getElem? hp),oL.ap⟩,oL.frap,oQ.z⟩
 ·have:=(h.nT q hq).1;omega
 ·have:=(h.nP q hq).1;omega
 ·have:=(h.nL q hq).1;omega
theorem step_append_n {P:Program}(w:World){ops:Array Oper}{o:Oper}{ac:Act}{K:Act->World->Prop}{Q:Exit->Act->World->Prop}{E:Prop}(hgd:o.guard=none) (s x:Operand) (t:TypeId)
  (ho:o.op=.call { callee:=.builtin .append,args:=#[s,x],argTypes:=#[t,t] })
  (e:TypeId) (i:TypeInfo) (z:Value) (size bytes:Nat) (ht:P.underlying t=some (.slice e)) (hi:P.info? e=some i) (hz:i.zero=some z)
  (hsize:i.size=size) (hby:i.bytes=bytes) (hzs:z.cells.size=size) (hsz:0 < size)
  (v:Value) (R:List (List Value)) (hv:ac.eval s=v) (hown:Sl w e size v R) (a:Option Addr) (m c:Nat) (S:List (List Value)) (hx:ac.eval x=.slice a m c) (hs:Inl w size (.slice a m c) S)
  (n:Nat) (hn:R.length+S.length=n) (h63:n<=maxLen) (hbytes:n*bytes<=140737488355328)
  (h:∀ a' c' w',Grew e size v w (.slice a' n c') (R ++ S) w'->K (ac.put o.dst (.slice a' n c')) w') :
  if Region.wanted o (yielded ops ac.tmps)=true then Oper.wp P o ac w K Q else E:=by
 subst hn
 obtain ⟨a',c',w',hr,hG⟩:=run_append_any (P:=P) w t o.type e i z size bytes ht hi hz hsize hby hzs hsz v R hown a m c S hs h63 hbytes
 have hw:Region.wanted o (yielded ops ac.tmps)=true:=by simp [Region.wanted,hgd]
 rw [if_pos hw]
 unfold Oper.wp
 simp [execOp,ho,resolve,invoke,builtin,hv,hx,hr,Result.andThen]
 exact h a' c' w' hG
open Go.RowKit
section
variable {Rep:World->Nat->(Nat->Prop)->RM->Prop}(A:ApM Rep)
end
end Go.Proofs.YteejjgbeknnmeaaGreatDoor
