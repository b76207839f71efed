import Derived.Test.YteejjgbeknnmeaaGreatDoorG11
import Derived.Test.YteejjgbeknnmeaaGreatDoorG04
import Derived.Deep.QuietTactic
import Derived.Deep.Slices
import Derived.DataReads
import GoSem.ClaimJoined
import Derived.ChangeSame
import Derived.ChangeVars
import Derived.JoinedOf
import Derived.RowKit
import Derived.RowKitTokens
import Derived.LaidLaws
import Derived.LaidHandle
import Derived.Stop.Joined
import Derived.Carry
import Derived.LaidMore
set_option maxRecDepth 100000
set_option maxHeartbeats 20000000
namespace Go.Proofs.YteejjgbeknnmeaaGreatDoor
open Go.RowKit
def Both (Rep:World->Nat->(Nat->Prop)->RM->Prop) (x y:Nat) (S Z:Nat->Prop) (K2:RM) (w w':World):Prop:=
 ∃ S' Z',Rep w' x S' K2/\RefRep w' y Z' K2/\Fr (fun q=>S q\/Z q) w w'/\(∀ q,S' q->S q\/w.heap.size<=q)/\(∀ q,Z' q->Z q\/w.heap.size<=q)/\∀ q,S' q->¬ Z' q
theorem RefRep.kept {w w':World}{y:Nat}{Z T:Nat->Prop}{K:RM}(h:RefRep w y Z K) (hf:Fr T w w') (hn:∀ k,Z k->¬ T k):RefRep w' y Z K:=refRuns.kept h hf hn
theorem RefRep.below {w w':World}{y:Nat}{Z:Nat->Prop}{K:RM}(h:RefRep w y Z K) (hb:Below w.heap.size w w'):RefRep w' y Z K:=refRuns.kept h (Fr.of_below hb (fun _=>False)) (fun _ _ e=>e)
theorem both_end {Rep:World->Nat->(Nat->Prop)->RM->Prop}(A:ApM Rep){x y m:Nat}{S Z:Nat->Prop}{K2:RM}{w w1 w2 w3:World}(B1:Below w.heap.size w w1) (L1:∃ S',Rep w2 x S' K2/\∀ b,S' b->S b\/m<=b) (hm:w.heap.size<=m) (f2:Fr S w1 w2) (hd:∀ k,S k->¬ Z k) (_hs:∀ q,S q->q < w.heap.size) (hz:∀ q,Z q->q < w.heap.size) (L2:Left RefRep y Z K2 w2 w3):Both Rep x y S Z K2 w w3:=by
 obtain ⟨S',rs,so⟩:=L1
 obtain ⟨⟨Z',ra,ro⟩,f3⟩:=L2
 have F12:Fr S w w2:=(Fr.of_below B1 S).trans f2
 have z2:=F12.size
 have sw:∀ q,S' q->q < w2.heap.size:=fun q hq=>A.lt rs q hq
 refine ⟨S',Z',A.kept rs f3 (fun q hq hr=>?_),ra,(F12.mono (fun _ _ h=>.inl h)).trans (f3.mono (fun _ _ h=>.inr h)),fun q hq=>?_,fun q hq=>?_,fun q hq hr=>?_⟩
 ·rcases so q hq with h | h
  ·exact hd q h hr
  ·have:=hz q hr;omega
 ·rcases so q hq with h | h
  ·exact .inl h
  ·exact .inr (by omega)
 ·rcases ro q hq with h | h
  ·exact .inl h
  ·exact .inr (by omega)
 ·rcases ro q hr with h | h
  ·rcases so q hq with h2 | h2
   ·exact hd q h2 h
   ·have:=hz q h;omega
  ·have:=sw q hq;omega
theorem works_load {Rep:World->Nat->(Nat->Prop)->RM->Prop}(A:ApM Rep) (b:Nat) (ka kb kcc kd2 kn:Int) (ky:Bool) (m0 m2 m3 m4 m5 m6:Int) (aw:Option Addr) (nw cw:Nat) (sp:Int) (aT aP aL:Option Addr) (mT mP mL cT cP cL:Nat) (x y:Nat) (S:Nat->Prop) (K:RM) (Z:Nat->Prop) (n:Nat) (w:World) (rx:Rep w x S K) (ry:RefRep w y Z K) (ok:K.Ok n) (hgl:Gl w) :
  Calls Tryz.prog 36 #[.pointer (some ⟨b,0,none⟩),.agg #[.int .i64 6,.int .i64 ka,.int .i64 kb,.int .i64 kcc,.int .i64 kd2,.int .i64 kn,.bool ky,.int .i64 m0,.slice aw nw cw,.int .i64 m2,.int .i64 m3,.int .i64 m4,.int .i64 m5,.int .i64 m6,.int .i64 sp,.slice aT mT cT,.slice aP mP cP,.slice aL mL cL],.agg #[.pointer (some ⟨x,0,none⟩),.pointer (some ⟨y,0,none⟩)]] w fun e w'=>e=.returned (.bool true)/\Below w.heap.size w w':=by
 have B1:Below w.heap.size w ((w.alloc (.cells #[.int .i64 6,.int .i64 ka,.int .i64 kb,.int .i64 kcc,.int .i64 kd2,.int .i64 kn,.bool ky,.int .i64 m0,.slice aw nw cw,.int .i64 m2,.int .i64 m3,.int .i64 m4,.int .i64 m5,.int .i64 m6,.int .i64 sp,.slice aT mT cT,.slice aP mP cP,.slice aL mL cL] 87)).alloc (.cells #[.pointer (some ⟨x,0,none⟩),.pointer (some ⟨y,0,none⟩)] 91)):=((Below.refl _ w).alloc (Nat.le_refl _) _).alloc (by simp) _
 have CX:=A.load x S K n kb kcc ((w.alloc (.cells #[.int .i64 6,.int .i64 ka,.int .i64 kb,.int .i64 kcc,.int .i64 kd2,.int .i64 kn,.bool ky,.int .i64 m0,.slice aw nw cw,.int .i64 m2,.int .i64 m3,.int .i64 m4,.int .i64 m5,.int .i64 m6,.int .i64 sp,.slice aT mT cT,.slice aP mP cP,.slice aL mL cL] 87)).alloc (.cells #[.pointer (some ⟨x,0,none⟩),.pointer (some ⟨y,0,none⟩)] 91)) (hgl.below B1) (A.kept rx (Fr.of_below B1 (fun _=>False)) (fun _ _ h=>h)) ok
 have CY:∀ w2,Below w.heap.size w w2->_:=fun w2 bw=>refRuns.load y Z K n kb kcc w2 trivial (ry.below bw) ok
 generalize (K.load kb kcc).1=va at *
 generalize (K.load kb kcc).2=vc at *
 have hq1:(va == va)=true:=by simp
 have hq2:(vc == vc)=true:=by simp
 have HC:=hid (And.intro CX (And.intro CY B1))
 clear CX CY B1 rx ry ok hgl
 go_enter Tryz.func36,Tryz.ntmps36
 go_wp2_with (first
  | (go_at_call 41;refine HC.out.1.mono ?_;rintro e w2 ⟨rfl,B2⟩;have y1:((w.alloc (.cells #[.int .i64 6,.int .i64 ka,.int .i64 kb,.int .i64 kcc,.int .i64 kd2,.int .i64 kn,.bool ky,.int .i64 m0,.slice aw nw cw,.int .i64 m2,.int .i64 m3,.int .i64 m4,.int .i64 m5,.int .i64 m6,.int .i64 sp,.slice aT mT cT,.slice aP mP cP,.slice aL mL cL] 87)).alloc (.cells #[.pointer (some ⟨x,0,none⟩),.pointer (some ⟨y,0,none⟩)] 91)).heap.size=w.heap.size+2:=(by simp);rw [y1] at B2;have r2:=(B2.block (w.heap.size+1) (by omega)).trans (heap_alloc2_new w _ _);have c2r:=(prBox r2).2;have r0:=(B2.block w.heap.size (by omega)).trans (heap_alloc2_old w _ _);have d2:w2.cell? ⟨w.heap.size,2,none⟩=some (.int .i64 kb):=(cell_of_row _ _ 2 _ _ _ r0).trans rfl;have d3:w2.cell? ⟨w.heap.size,3,none⟩=some (.int .i64 kcc):=(cell_of_row _ _ 3 _ _ _ r0).trans rfl;have B02:=hid (HC.out.2.2.trans (B2.mono (by omega)));clear B2 r2 r0 y1)
  | (go_at_call 65;refine (HC.out.2.1 w2 B02.out).mono ?_;rintro e w3 ⟨rfl,B3⟩;replace B3:=hid B3))
 go_ret
 exact ⟨rfl,B02.out.trans (B3.out.mono B02.out.size)⟩
theorem works_store {Rep:World->Nat->(Nat->Prop)->RM->Prop}(A:ApM Rep) (b:Nat) (ka kb kcc kd2 kn:Int) (ky:Bool) (m0 m2 m3 m4 m5 m6:Int) (aw:Option Addr) (nw cw:Nat) (sp:Int) (aT aP aL:Option Addr) (mT mP mL cT cP cL:Nat) (x y:Nat) (S:Nat->Prop) (K K2:RM) (c:Int) (Z:Nat->Prop) (w:World) (rx:Rep w x S K) (ry:RefRep w y Z K) (hd:∀ k,S k->¬ Z k)
  (CX0:∀ w1,Below w.heap.size w w1->Calls Tryz.prog 39 #[.pointer (some ⟨x,0,none⟩),.int .i64 kb,.int .i64 kcc,.int .i64 kn] w1 fun e w'=>e=.returned (.int .i64 c)/\(∃ S',Rep w' x S' K2/\∀ b,S' b->S b\/w1.heap.size<=b)/\Fr S w1 w')
  (CY:∀ w2,RefRep w2 y Z K->Calls Tryz.prog 66 #[.pointer (some ⟨y,0,none⟩),.int .i64 kb,.int .i64 kcc,.int .i64 kn] w2 fun e w'=>e=.returned (.int .i64 c)/\Left RefRep y Z K2 w2 w') :
  Calls Tryz.prog 36 #[.pointer (some ⟨b,0,none⟩),.agg #[.int .i64 7,.int .i64 ka,.int .i64 kb,.int .i64 kcc,.int .i64 kd2,.int .i64 kn,.bool ky,.int .i64 m0,.slice aw nw cw,.int .i64 m2,.int .i64 m3,.int .i64 m4,.int .i64 m5,.int .i64 m6,.int .i64 sp,.slice aT mT cT,.slice aP mP cP,.slice aL mL cL],.agg #[.pointer (some ⟨x,0,none⟩),.pointer (some ⟨y,0,none⟩)]] w fun e w'=>e=.returned (.bool true)/\Both Rep x y S Z K2 w w':=by
 have B1:Below w.heap.size w ((w.alloc (.cells #[.int .i64 7,.int .i64 ka,.int .i64 kb,.int .i64 kcc,.int .i64 kd2,.int .i64 kn,.bool ky,.int .i64 m0,.slice aw nw cw,.int .i64 m2,.int .i64 m3,.int .i64 m4,.int .i64 m5,.int .i64 m6,.int .i64 sp,.slice aT mT cT,.slice aP mP cP,.slice aL mL cL] 87)).alloc (.cells #[.pointer (some ⟨x,0,none⟩),.pointer (some ⟨y,0,none⟩)] 91)):=((Below.refl _ w).alloc (Nat.le_refl _) _).alloc (by simp) _
 have CX:=CX0 _ B1
 have hs:∀ q,S q->q < w.heap.size:=fun q hq=>A.lt rx q hq
 have hyl:∀ q,Z q->q < w.heap.size:=fun q hq=>ry.lt hq
 have hq1:(c == c)=true:=by simp
 have HC:=hid (And.intro CX (And.intro CY (And.intro B1 (And.intro ry (And.intro hd (And.intro hs hyl))))))
 clear CX CX0 CY B1 rx ry hd hs hyl
 go_enter Tryz.func36,Tryz.ntmps36
 go_wp2_with (first
  | (go_at_call 39;refine HC.out.1.mono ?_;rintro e w2 ⟨rfl,RX,F2⟩;have y1:((w.alloc (.cells #[.int .i64 7,.int .i64 ka,.int .i64 kb,.int .i64 kcc,.int .i64 kd2,.int .i64 kn,.bool ky,.int .i64 m0,.slice aw nw cw,.int .i64 m2,.int .i64 m3,.int .i64 m4,.int .i64 m5,.int .i64 m6,.int .i64 sp,.slice aT mT cT,.slice aP mP cP,.slice aL mL cL] 87)).alloc (.cells #[.pointer (some ⟨x,0,none⟩),.pointer (some ⟨y,0,none⟩)] 91)).heap.size=w.heap.size+2:=(by simp);have z2:=F2.size;rw [y1] at z2;have r2:=(F2.block (w.heap.size+1) (by omega) (fun h=>by have:=HC.out.2.2.2.2.2.1 _ h;omega)).trans (heap_alloc2_new w _ _);have c2r:=(prBox r2).2;have r0:=(F2.block w.heap.size (by omega) (fun h=>by have:=HC.out.2.2.2.2.2.1 _ h;omega)).trans (heap_alloc2_old w _ _);have d2:w2.cell? ⟨w.heap.size,2,none⟩=some (.int .i64 kb):=(cell_of_row _ _ 2 _ _ _ r0).trans rfl;have d3:w2.cell? ⟨w.heap.size,3,none⟩=some (.int .i64 kcc):=(cell_of_row _ _ 3 _ _ _ r0).trans rfl;have d5:w2.cell? ⟨w.heap.size,5,none⟩=some (.int .i64 kn):=(cell_of_row _ _ 5 _ _ _ r0).trans rfl;have ry2:=(HC.out.2.2.2.1.below HC.out.2.2.1).kept F2 (fun q hq hs=>HC.out.2.2.2.2.1 q hs hq);rw [y1] at RX;have H2:=hid (And.intro RX (And.intro F2 ry2));clear RX F2 ry2 r2 r0 y1)
  | (go_at_call 66;refine (HC.out.2.1 w2 H2.out.2.2).mono ?_;rintro e w3 ⟨rfl,H3⟩;replace H3:=hid H3))
 go_ret
 exact ⟨rfl,both_end A HC.out.2.2.1 H2.out.1 (by omega) H2.out.2.1 HC.out.2.2.2.2.1 HC.out.2.2.2.2.2.1 HC.out.2.2.2.2.2.2 H3.out⟩
theorem works_unmap {Rep:World->Nat->(Nat->Prop)->RM->Prop}(A:ApM Rep) (b:Nat) (ka kb kcc kd2 kn:Int) (ky:Bool) (m0 m2 m3 m4 m5 m6:Int) (aw:Option Addr) (nw cw:Nat) (sp:Int) (aT aP aL:Option Addr) (mT mP mL cT cP cL:Nat) (x y:Nat) (S:Nat->Prop) (K K2:RM) (c:Int) (Z:Nat->Prop) (w:World) (rx:Rep w x S K) (ry:RefRep w y Z K) (hd:∀ k,S k->¬ Z k)
  (CX0:∀ w1,Below w.heap.size w w1->Calls Tryz.prog 30 #[.pointer (some ⟨x,0,none⟩),.int .i64 kb,.bool ky] w1 fun e w'=>e=.returned (.int .i64 c)/\(∃ S',Rep w' x S' K2/\∀ b,S' b->S b\/w1.heap.size<=b)/\Fr S w1 w')
  (CY:∀ w2,RefRep w2 y Z K->Calls Tryz.prog 67 #[.pointer (some ⟨y,0,none⟩),.int .i64 kb,.bool ky] w2 fun e w'=>e=.returned (.int .i64 c)/\Left RefRep y Z K2 w2 w') :
  Calls Tryz.prog 36 #[.pointer (some ⟨b,0,none⟩),.agg #[.int .i64 8,.int .i64 ka,.int .i64 kb,.int .i64 kcc,.int .i64 kd2,.int .i64 kn,.bool ky,.int .i64 m0,.slice aw nw cw,.int .i64 m2,.int .i64 m3,.int .i64 m4,.int .i64 m5,.int .i64 m6,.int .i64 sp,.slice aT mT cT,.slice aP mP cP,.slice aL mL cL],.agg #[.pointer (some ⟨x,0,none⟩),.pointer (some ⟨y,0,none⟩)]] w fun e w'=>e=.returned (.bool true)/\Both Rep x y S Z K2 w w':=by
 have B1:Below w.heap.size w ((w.alloc (.cells #[.int .i64 8,.int .i64 ka,.int .i64 kb,.int .i64 kcc,.int .i64 kd2,.int .i64 kn,.bool ky,.int .i64 m0,.slice aw nw cw,.int .i64 m2,.int .i64 m3,.int .i64 m4,.int .i64 m5,.int .i64 m6,.int .i64 sp,.slice aT mT cT,.slice aP mP cP,.slice aL mL cL] 87)).alloc (.cells #[.pointer (some ⟨x,0,none⟩),.pointer (some ⟨y,0,none⟩)] 91)):=((Below.refl _ w).alloc (Nat.le_refl _) _).alloc (by simp) _
 have CX:=CX0 _ B1
 have hs:∀ q,S q->q < w.heap.size:=fun q hq=>A.lt rx q hq
 have hyl:∀ q,Z q->q < w.heap.size:=fun q hq=>ry.lt hq
 have hq1:(c == c)=true:=by simp
 have HC:=hid (And.intro CX (And.intro CY (And.intro B1 (And.intro ry (And.intro hd (And.intro hs hyl))))))
 clear CX CX0 CY B1 rx ry hd hs hyl
 go_enter Tryz.func36,Tryz.ntmps36
 go_wp2_with (first
  | (go_at_call 30;refine HC.out.1.mono ?_;rintro e w2 ⟨rfl,RX,F2⟩;have y1:((w.alloc (.cells #[.int .i64 8,.int .i64 ka,.int .i64 kb,.int .i64 kcc,.int .i64 kd2,.int .i64 kn,.bool ky,.int .i64 m0,.slice aw nw cw,.int .i64 m2,.int .i64 m3,.int .i64 m4,.int .i64 m5,.int .i64 m6,.int .i64 sp,.slice aT mT cT,.slice aP mP cP,.slice aL mL cL] 87)).alloc (.cells #[.pointer (some ⟨x,0,none⟩),.pointer (some ⟨y,0,none⟩)] 91)).heap.size=w.heap.size+2:=(by simp);have z2:=F2.size;rw [y1] at z2;have r2:=(F2.block (w.heap.size+1) (by omega) (fun h=>by have:=HC.out.2.2.2.2.2.1 _ h;omega)).trans (heap_alloc2_new w _ _);have c2r:=(prBox r2).2;have r0:=(F2.block w.heap.size (by omega) (fun h=>by have:=HC.out.2.2.2.2.2.1 _ h;omega)).trans (heap_alloc2_old w _ _);have d2:w2.cell? ⟨w.heap.size,2,none⟩=some (.int .i64 kb):=(cell_of_row _ _ 2 _ _ _ r0).trans rfl;have d6:w2.cell? ⟨w.heap.size,6,none⟩=some (.bool ky):=(cell_of_row _ _ 6 _ _ _ r0).trans rfl;have ry2:=(HC.out.2.2.2.1.below HC.out.2.2.1).kept F2 (fun q hq hs=>HC.out.2.2.2.2.1 q hs hq);rw [y1] at RX;have H2:=hid (And.intro RX (And.intro F2 ry2));clear RX F2 ry2 r2 r0 y1)
  | (go_at_call 67;refine (HC.out.2.1 w2 H2.out.2.2).mono ?_;rintro e w3 ⟨rfl,H3⟩;replace H3:=hid H3))
 go_ret
 exact ⟨rfl,both_end A HC.out.2.2.1 H2.out.1 (by omega) H2.out.2.1 HC.out.2.2.2.2.1 HC.out.2.2.2.2.2.1 HC.out.2.2.2.2.2.2 H3.out⟩
theorem works_derive {Rep:World->Nat->(Nat->Prop)->RM->Prop}(A:ApM Rep) (b:Nat) (ka kb kcc kd2 kn:Int) (ky:Bool) (m0 m2 m3 m4 m5 m6:Int) (aw:Option Addr) (nw cw:Nat) (sp:Int) (aT aP aL:Option Addr) (mT mP mL cT cP cL:Nat) (x y:Nat) (S:Nat->Prop) (K K2:RM) (c:Int) (Z:Nat->Prop) (w:World) (rx:Rep w x S K) (ry:RefRep w y Z K) (hd:∀ k,S k->¬ Z k)
  (CX0:∀ w1,Below w.heap.size w w1->Calls Tryz.prog 48 #[.pointer (some ⟨x,0,none⟩),.int .i64 kb,.int .i64 kcc,.int .i64 kd2] w1 fun e w'=>e=.returned (.int .i64 c)/\(∃ S',Rep w' x S' K2/\∀ b,S' b->S b\/w1.heap.size<=b)/\Fr S w1 w')
  (CY:∀ w2,RefRep w2 y Z K->Calls Tryz.prog 68 #[.pointer (some ⟨y,0,none⟩),.int .i64 kb,.int .i64 kcc,.int .i64 kd2] w2 fun e w'=>e=.returned (.int .i64 c)/\Left RefRep y Z K2 w2 w') :
  Calls Tryz.prog 36 #[.pointer (some ⟨b,0,none⟩),.agg #[.int .i64 9,.int .i64 ka,.int .i64 kb,.int .i64 kcc,.int .i64 kd2,.int .i64 kn,.bool ky,.int .i64 m0,.slice aw nw cw,.int .i64 m2,.int .i64 m3,.int .i64 m4,.int .i64 m5,.int .i64 m6,.int .i64 sp,.slice aT mT cT,.slice aP mP cP,.slice aL mL cL],.agg #[.pointer (some ⟨x,0,none⟩),.pointer (some ⟨y,0,none⟩)]] w fun e w'=>e=.returned (.bool true)/\Both Rep x y S Z K2 w w':=by
 have B1:Below w.heap.size w ((w.alloc (.cells #[.int .i64 9,.int .i64 ka,.int .i64 kb,.int .i64 kcc,.int .i64 kd2,.int .i64 kn,.bool ky,.int .i64 m0,.slice aw nw cw,.int .i64 m2,.int .i64 m3,.int .i64 m4,.int .i64 m5,.int .i64 m6,.int .i64 sp,.slice aT mT cT,.slice aP mP cP,.slice aL mL cL] 87)).alloc (.cells #[.pointer (some ⟨x,0,none⟩),.pointer (some ⟨y,0,none⟩)] 91)):=((Below.refl _ w).alloc (Nat.le_refl _) _).alloc (by simp) _
 have CX:=CX0 _ B1
 have hs:∀ q,S q->q < w.heap.size:=fun q hq=>A.lt rx q hq
 have hyl:∀ q,Z q->q < w.heap.size:=fun q hq=>ry.lt hq
 have hq1:(c == c)=true:=by simp
 have HC:=hid (And.intro CX (And.intro CY (And.intro B1 (And.intro ry (And.intro hd (And.intro hs hyl))))))
 clear CX CX0 CY B1 rx ry hd hs hyl
 go_enter Tryz.func36,Tryz.ntmps36
 go_wp2_with (first
  | (go_at_call 48;refine HC.out.1.mono ?_;rintro e w2 ⟨rfl,RX,F2⟩;have y1:((w.alloc (.cells #[.int .i64 9,.int .i64 ka,.int .i64 kb,.int .i64 kcc,.int .i64 kd2,.int .i64 kn,.bool ky,.int .i64 m0,.slice aw nw cw,.int .i64 m2,.int .i64 m3,.int .i64 m4,.int .i64 m5,.int .i64 m6,.int .i64 sp,.slice aT mT cT,.slice aP mP cP,.slice aL mL cL] 87)).alloc (.cells #[.pointer (some ⟨x,0,none⟩),.pointer (some ⟨y,0,none⟩)] 91)).heap.size=w.heap.size+2:=(by simp);have z2:=F2.size;rw [y1] at z2;have r2:=(F2.block (w.heap.size+1) (by omega) (fun h=>by have:=HC.out.2.2.2.2.2.1 _ h;omega)).trans (heap_alloc2_new w _ _);have c2r:=(prBox r2).2;have r0:=(F2.block w.heap.size (by omega) (fun h=>by have:=HC.out.2.2.2.2.2.1 _ h;omega)).trans (heap_alloc2_old w _ _);have d2:w2.cell? ⟨w.heap.size,2,none⟩=some (.int .i64 kb):=(cell_of_row _ _ 2 _ _ _ r0).trans rfl;have d3:w2.cell? ⟨w.heap.size,3,none⟩=some (.int .i64 kcc):=(cell_of_row _ _ 3 _ _ _ r0).trans rfl;have d4:w2.cell? ⟨w.heap.size,4,none⟩=some (.int .i64 kd2):=(cell_of_row _ _ 4 _ _ _ r0).trans rfl;have ry2:=(HC.out.2.2.2.1.below HC.out.2.2.1).kept F2 (fun q hq hs=>HC.out.2.2.2.2.1 q hs hq);rw [y1] at RX;have H2:=hid (And.intro RX (And.intro F2 ry2));clear RX F2 ry2 r2 r0 y1)
  | (go_at_call 68;refine (HC.out.2.1 w2 H2.out.2.2).mono ?_;rintro e w3 ⟨rfl,H3⟩;replace H3:=hid H3))
 go_ret
 exact ⟨rfl,both_end A HC.out.2.2.1 H2.out.1 (by omega) H2.out.2.1 HC.out.2.2.2.2.1 HC.out.2.2.2.2.2.1 HC.out.2.2.2.2.2.2 H3.out⟩
theorem works_drop {Rep:World->Nat->(Nat->Prop)->RM->Prop}(A:ApM Rep) (b:Nat) (ka kb kcc kd2 kn:Int) (ky:Bool) (m0 m2 m3 m4 m5 m6:Int) (aw:Option Addr) (nw cw:Nat) (sp:Int) (aT aP aL:Option Addr) (mT mP mL cT cP cL:Nat) (x y:Nat) (S:Nat->Prop) (K K2:RM) (c:Int) (Z:Nat->Prop) (w:World) (rx:Rep w x S K) (ry:RefRep w y Z K) (hd:∀ k,S k->¬ Z k)
  (CX0:∀ w1,Below w.heap.size w w1->Calls Tryz.prog 49 #[.pointer (some ⟨x,0,none⟩),.int .i64 kb] w1 fun e w'=>e=.returned (.int .i64 c)/\(∃ S',Rep w' x S' K2/\∀ b,S' b->S b\/w1.heap.size<=b)/\Fr S w1 w')
  (CY:∀ w2,RefRep w2 y Z K->Calls Tryz.prog 69 #[.pointer (some ⟨y,0,none⟩),.int .i64 kb] w2 fun e w'=>e=.returned (.int .i64 c)/\Left RefRep y Z K2 w2 w') :
  Calls Tryz.prog 36 #[.pointer (some ⟨b,0,none⟩),.agg #[.int .i64 10,.int .i64 ka,.int .i64 kb,.int .i64 kcc,.int .i64 kd2,.int .i64 kn,.bool ky,.int .i64 m0,.slice aw nw cw,.int .i64 m2,.int .i64 m3,.int .i64 m4,.int .i64 m5,.int .i64 m6,.int .i64 sp,.slice aT mT cT,.slice aP mP cP,.slice aL mL cL],.agg #[.pointer (some ⟨x,0,none⟩),.pointer (some ⟨y,0,none⟩)]] w fun e w'=>e=.returned (.bool true)/\Both Rep x y S Z K2 w w':=by
 have B1:Below w.heap.size w ((w.alloc (.cells #[.int .i64 10,.int .i64 ka,.int .i64 kb,.int .i64 kcc,.int .i64 kd2,.int .i64 kn,.bool ky,.int .i64 m0,.slice aw nw cw,.int .i64 m2,.int .i64 m3,.int .i64 m4,.int .i64 m5,.int .i64 m6,.int .i64 sp,.slice aT mT cT,.slice aP mP cP,.slice aL mL cL] 87)).alloc (.cells #[.pointer (some ⟨x,0,none⟩),.pointer (some ⟨y,0,none⟩)] 91)):=((Below.refl _ w).alloc (Nat.le_refl _) _).alloc (by simp) _
 have CX:=CX0 _ B1
 have hs:∀ q,S q->q < w.heap.size:=fun q hq=>A.lt rx q hq
 have hyl:∀ q,Z q->q < w.heap.size:=fun q hq=>ry.lt hq
 have hq1:(c == c)=true:=by simp
 have HC:=hid (And.intro CX (And.intro CY (And.intro B1 (And.intro ry (And.intro hd (And.intro hs hyl))))))
 clear CX CX0 CY B1 rx ry hd hs hyl
 go_enter Tryz.func36,Tryz.ntmps36
 go_wp2_with (first
  | (go_at_call 49;refine HC.out.1.mono ?_;rintro e w2 ⟨rfl,RX,F2⟩;have y1:((w.alloc (.cells #[.int .i64 10,.int .i64 ka,.int .i64 kb,.int .i64 kcc,.int .i64 kd2,.int .i64 kn,.bool ky,.int .i64 m0,.slice aw nw cw,.int .i64 m2,.int .i64 m3,.int .i64 m4,.int .i64 m5,.int .i64 m6,.int .i64 sp,.slice aT mT cT,.slice aP mP cP,.slice aL mL cL] 87)).alloc (.cells #[.pointer (some ⟨x,0,none⟩),.pointer (some ⟨y,0,none⟩)] 91)).heap.size=w.heap.size+2:=(by simp);have z2:=F2.size;rw [y1] at z2;have r2:=(F2.block (w.heap.size+1) (by omega) (fun h=>by have:=HC.out.2.2.2.2.2.1 _ h;omega)).trans (heap_alloc2_new w _ _);have c2r:=(prBox r2).2;have r0:=(F2.block w.heap.size (by omega) (fun h=>by have:=HC.out.2.2.2.2.2.1 _ h;omega)).trans (heap_alloc2_old w _ _);have d2:w2.cell? ⟨w.heap.size,2,none⟩=some (.int .i64 kb):=(cell_of_row _ _ 2 _ _ _ r0).trans rfl;have ry2:=(HC.out.2.2.2.1.below HC.out.2.2.1).kept F2 (fun q hq hs=>HC.out.2.2.2.2.1 q hs hq);rw [y1] at RX;have H2:=hid (And.intro RX (And.intro F2 ry2));clear RX F2 ry2 r2 r0 y1)
  | (go_at_call 69;refine (HC.out.2.1 w2 H2.out.2.2).mono ?_;rintro e w3 ⟨rfl,H3⟩;replace H3:=hid H3))
 go_ret
 exact ⟨rfl,both_end A HC.out.2.2.1 H2.out.1 (by omega) H2.out.2.1 HC.out.2.2.2.2.1 HC.out.2.2.2.2.2.1 HC.out.2.2.2.2.2.2 H3.out⟩
open Go.RowKit
theorem works_current {Rep:World->Nat->(Nat->Prop)->RM->Prop}(A:ApM Rep) (b:Nat) (ka kb kcc kd2 kn:Int) (ky:Bool) (m0 m2 m3 m4 m5 m6:Int) (aw:Option Addr) (nw cw:Nat) (sp:Int) (aT aP aL:Option Addr) (mT mP mL cT cP cL:Nat) (x y:Nat) (S:Nat->Prop) (K:RM) (Z:Nat->Prop) (n:Nat) (w:World) (rx:Rep w x S K) (ry:RefRep w y Z K) (ok:K.Ok n) :
  Calls Tryz.prog 36 #[.pointer (some ⟨b,0,none⟩),.agg #[.int .i64 2,.int .i64 ka,.int .i64 kb,.int .i64 kcc,.int .i64 kd2,.int .i64 kn,.bool ky,.int .i64 m0,.slice aw nw cw,.int .i64 m2,.int .i64 m3,.int .i64 m4,.int .i64 m5,.int .i64 m6,.int .i64 sp,.slice aT mT cT,.slice aP mP cP,.slice aL mL cL],.agg #[.pointer (some ⟨x,0,none⟩),.pointer (some ⟨y,0,none⟩)]] w fun e w'=>e=.returned (.bool true)/\Below w.heap.size w w':=by
 have B1:Below w.heap.size w ((w.alloc (.cells #[.int .i64 2,.int .i64 ka,.int .i64 kb,.int .i64 kcc,.int .i64 kd2,.int .i64 kn,.bool ky,.int .i64 m0,.slice aw nw cw,.int .i64 m2,.int .i64 m3,.int .i64 m4,.int .i64 m5,.int .i64 m6,.int .i64 sp,.slice aT mT cT,.slice aP mP cP,.slice aL mL cL] 87)).alloc (.cells #[.pointer (some ⟨x,0,none⟩),.pointer (some ⟨y,0,none⟩)] 91)):=((Below.refl _ w).alloc (Nat.le_refl _) _).alloc (by simp) _
 have CX:=A.current x S K n ((w.alloc (.cells #[.int .i64 2,.int .i64 ka,.int .i64 kb,.int .i64 kcc,.int .i64 kd2,.int .i64 kn,.bool ky,.int .i64 m0,.slice aw nw cw,.int .i64 m2,.int .i64 m3,.int .i64 m4,.int .i64 m5,.int .i64 m6,.int .i64 sp,.slice aT mT cT,.slice aP mP cP,.slice aL mL cL] 87)).alloc (.cells #[.pointer (some ⟨x,0,none⟩),.pointer (some ⟨y,0,none⟩)] 91)) (A.kept rx (Fr.of_below B1 (fun _=>False)) (fun _ _ h=>h)) ok
 have CY:∀ w2,Below w.heap.size w w2->_:=fun w2 bw=>refRuns.current y Z K n w2 (ry.below bw) ok
 generalize K.cur=va at *
 have hq1:(va == va)=true:=by simp
 have HC:=hid (And.intro CX (And.intro CY B1))
 clear CX CY B1 rx ry ok
 go_enter Tryz.func36,Tryz.ntmps36
 go_wp2_with (first
  | (go_at_call 18;refine HC.out.1.mono ?_;rintro e w2 ⟨rfl,B2⟩;have y1:((w.alloc (.cells #[.int .i64 2,.int .i64 ka,.int .i64 kb,.int .i64 kcc,.int .i64 kd2,.int .i64 kn,.bool ky,.int .i64 m0,.slice aw nw cw,.int .i64 m2,.int .i64 m3,.int .i64 m4,.int .i64 m5,.int .i64 m6,.int .i64 sp,.slice aT mT cT,.slice aP mP cP,.slice aL mL cL] 87)).alloc (.cells #[.pointer (some ⟨x,0,none⟩),.pointer (some ⟨y,0,none⟩)] 91)).heap.size=w.heap.size+2:=(by simp);rw [y1] at B2;have r2:=(B2.block (w.heap.size+1) (by omega)).trans (heap_alloc2_new w _ _);have c2r:=(prBox r2).2;have r0:=(B2.block w.heap.size (by omega)).trans (heap_alloc2_old w _ _);have d2:w2.cell? ⟨w.heap.size,2,none⟩=some (.int .i64 kb):=(cell_of_row _ _ 2 _ _ _ r0).trans rfl;have d3:w2.cell? ⟨w.heap.size,3,none⟩=some (.int .i64 kcc):=(cell_of_row _ _ 3 _ _ _ r0).trans rfl;have B02:=hid (HC.out.2.2.trans (B2.mono (by omega)));clear B2 r2 r0 y1)
  | (go_at_call 59;refine (HC.out.2.1 w2 B02.out).mono ?_;rintro e w3 ⟨rfl,B3⟩;replace B3:=hid B3))
 go_ret
 exact ⟨rfl,B02.out.trans (B3.out.mono B02.out.size)⟩
theorem works_tick {Rep:World->Nat->(Nat->Prop)->RM->Prop}(A:ApM Rep) (b:Nat) (ka kb kcc kd2 kn:Int) (ky:Bool) (m0 m2 m3 m4 m5 m6:Int) (aw:Option Addr) (nw cw:Nat) (sp:Int) (aT aP aL:Option Addr) (mT mP mL cT cP cL:Nat) (x y:Nat) (S:Nat->Prop) (K K2:RM) (Z:Nat->Prop) (w:World) (rx:Rep w x S K) (ry:RefRep w y Z K) (hd:∀ k,S k->¬ Z k)
  (CX0:∀ w1,Below w.heap.size w w1->Calls Tryz.prog 19 #[.pointer (some ⟨x,0,none⟩)] w1 fun e w'=>e=.returned (.tuple #[])/\(∃ S',Rep w' x S' K2/\∀ b,S' b->S b\/w1.heap.size<=b)/\Fr S w1 w')
  (CY:∀ w2,RefRep w2 y Z K->Calls Tryz.prog 60 #[.pointer (some ⟨y,0,none⟩)] w2 fun e w'=>e=.returned (.tuple #[])/\Left RefRep y Z K2 w2 w') :
  Calls Tryz.prog 36 #[.pointer (some ⟨b,0,none⟩),.agg #[.int .i64 3,.int .i64 ka,.int .i64 kb,.int .i64 kcc,.int .i64 kd2,.int .i64 kn,.bool ky,.int .i64 m0,.slice aw nw cw,.int .i64 m2,.int .i64 m3,.int .i64 m4,.int .i64 m5,.int .i64 m6,.int .i64 sp,.slice aT mT cT,.slice aP mP cP,.slice aL mL cL],.agg #[.pointer (some ⟨x,0,none⟩),.pointer (some ⟨y,0,none⟩)]] w fun e w'=>e=.returned (.bool true)/\Both Rep x y S Z K2 w w':=by
 have B1:Below w.heap.size w ((w.alloc (.cells #[.int .i64 3,.int .i64 ka,.int .i64 kb,.int .i64 kcc,.int .i64 kd2,.int .i64 kn,.bool ky,.int .i64 m0,.slice aw nw cw,.int .i64 m2,.int .i64 m3,.int .i64 m4,.int .i64 m5,.int .i64 m6,.int .i64 sp,.slice aT mT cT,.slice aP mP cP,.slice aL mL cL] 87)).alloc (.cells #[.pointer (some ⟨x,0,none⟩),.pointer (some ⟨y,0,none⟩)] 91)):=((Below.refl _ w).alloc (Nat.le_refl _) _).alloc (by simp) _
 have CX:=CX0 _ B1
 have hs:∀ q,S q->q < w.heap.size:=fun q hq=>A.lt rx q hq
 have hyl:∀ q,Z q->q < w.heap.size:=fun q hq=>ry.lt hq
 have HC:=hid (And.intro CX (And.intro CY (And.intro B1 (And.intro ry (And.intro hd (And.intro hs hyl))))))
 clear CX CX0 CY B1 rx ry hd hs hyl
 go_enter Tryz.func36,Tryz.ntmps36
 go_wp2_with (first
  | (go_at_call 19;refine HC.out.1.mono ?_;rintro e w2 ⟨rfl,RX,F2⟩;have y1:((w.alloc (.cells #[.int .i64 3,.int .i64 ka,.int .i64 kb,.int .i64 kcc,.int .i64 kd2,.int .i64 kn,.bool ky,.int .i64 m0,.slice aw nw cw,.int .i64 m2,.int .i64 m3,.int .i64 m4,.int .i64 m5,.int .i64 m6,.int .i64 sp,.slice aT mT cT,.slice aP mP cP,.slice aL mL cL] 87)).alloc (.cells #[.pointer (some ⟨x,0,none⟩),.pointer (some ⟨y,0,none⟩)] 91)).heap.size=w.heap.size+2:=(by simp);have z2:=F2.size;rw [y1] at z2;have r2:=(F2.block (w.heap.size+1) (by omega) (fun h=>by have:=HC.out.2.2.2.2.2.1 _ h;omega)).trans (heap_alloc2_new w _ _);have c2r:=(prBox r2).2;have r0:=(F2.block w.heap.size (by omega) (fun h=>by have:=HC.out.2.2.2.2.2.1 _ h;omega)).trans (heap_alloc2_old w _ _);have d2:w2.cell? ⟨w.heap.size,2,none⟩=some (.int .i64 kb):=(cell_of_row _ _ 2 _ _ _ r0).trans rfl;have ry2:=(HC.out.2.2.2.1.below HC.out.2.2.1).kept F2 (fun q hq hs=>HC.out.2.2.2.2.1 q hs hq);rw [y1] at RX;have H2:=hid (And.intro RX (And.intro F2 ry2));clear RX F2 ry2 r2 r0 y1)
  | (go_at_call 60;refine (HC.out.2.1 w2 H2.out.2.2).mono ?_;rintro e w3 ⟨rfl,H3⟩;replace H3:=hid H3))
 go_ret
 exact ⟨rfl,both_end A HC.out.2.2.1 H2.out.1 (by omega) H2.out.2.1 HC.out.2.2.2.2.1 HC.out.2.2.2.2.2.1 HC.out.2.2.2.2.2.2 H3.out⟩
theorem works_yield {Rep:World->Nat->(Nat->Prop)->RM->Prop}(A:ApM Rep) (b:Nat) (ka kb kcc kd2 kn:Int) (ky:Bool) (m0 m2 m3 m4 m5 m6:Int) (aw:Option Addr) (nw cw:Nat) (sp:Int) (aT aP aL:Option Addr) (mT mP mL cT cP cL:Nat) (x y:Nat) (S:Nat->Prop) (K K2:RM) (c:Int) (Z:Nat->Prop) (w:World) (rx:Rep w x S K) (ry:RefRep w y Z K) (hd:∀ k,S k->¬ Z k)
  (CX0:∀ w1,Below w.heap.size w w1->Calls Tryz.prog 22 #[.pointer (some ⟨x,0,none⟩)] w1 fun e w'=>e=.returned (.int .i64 c)/\(∃ S',Rep w' x S' K2/\∀ b,S' b->S b\/w1.heap.size<=b)/\Fr S w1 w')
  (CY:∀ w2,RefRep w2 y Z K->Calls Tryz.prog 64 #[.pointer (some ⟨y,0,none⟩)] w2 fun e w'=>e=.returned (.int .i64 c)/\Left RefRep y Z K2 w2 w') :
  Calls Tryz.prog 36 #[.pointer (some ⟨b,0,none⟩),.agg #[.int .i64 5,.int .i64 ka,.int .i64 kb,.int .i64 kcc,.int .i64 kd2,.int .i64 kn,.bool ky,.int .i64 m0,.slice aw nw cw,.int .i64 m2,.int .i64 m3,.int .i64 m4,.int .i64 m5,.int .i64 m6,.int .i64 sp,.slice aT mT cT,.slice aP mP cP,.slice aL mL cL],.agg #[.pointer (some ⟨x,0,none⟩),.pointer (some ⟨y,0,none⟩)]] w fun e w'=>e=.returned (.bool true)/\Both Rep x y S Z K2 w w':=by
 have B1:Below w.heap.size w ((w.alloc (.cells #[.int .i64 5,.int .i64 ka,.int .i64 kb,.int .i64 kcc,.int .i64 kd2,.int .i64 kn,.bool ky,.int .i64 m0,.slice aw nw cw,.int .i64 m2,.int .i64 m3,.int .i64 m4,.int .i64 m5,.int .i64 m6,.int .i64 sp,.slice aT mT cT,.slice aP mP cP,.slice aL mL cL] 87)).alloc (.cells #[.pointer (some ⟨x,0,none⟩),.pointer (some ⟨y,0,none⟩)] 91)):=((Below.refl _ w).alloc (Nat.le_refl _) _).alloc (by simp) _
 have CX:=CX0 _ B1
 have hs:∀ q,S q->q < w.heap.size:=fun q hq=>A.lt rx q hq
 have hyl:∀ q,Z q->q < w.heap.size:=fun q hq=>ry.lt hq
 have hq1:(c == c)=true:=by simp
 have HC:=hid (And.intro CX (And.intro CY (And.intro B1 (And.intro ry (And.intro hd (And.intro hs hyl))))))
 clear CX CX0 CY B1 rx ry hd hs hyl
 go_enter Tryz.func36,Tryz.ntmps36
 go_wp2_with (first
  | (go_at_call 22;refine HC.out.1.mono ?_;rintro e w2 ⟨rfl,RX,F2⟩;have y1:((w.alloc (.cells #[.int .i64 5,.int .i64 ka,.int .i64 kb,.int .i64 kcc,.int .i64 kd2,.int .i64 kn,.bool ky,.int .i64 m0,.slice aw nw cw,.int .i64 m2,.int .i64 m3,.int .i64 m4,.int .i64 m5,.int .i64 m6,.int .i64 sp,.slice aT mT cT,.slice aP mP cP,.slice aL mL cL] 87)).alloc (.cells #[.pointer (some ⟨x,0,none⟩),.pointer (some ⟨y,0,none⟩)] 91)).heap.size=w.heap.size+2:=(by simp);have z2:=F2.size;rw [y1] at z2;have r2:=(F2.block (w.heap.size+1) (by omega) (fun h=>by have:=HC.out.2.2.2.2.2.1 _ h;omega)).trans (heap_alloc2_new w _ _);have c2r:=(prBox r2).2;have r0:=(F2.block w.heap.size (by omega) (fun h=>by have:=HC.out.2.2.2.2.2.1 _ h;omega)).trans (heap_alloc2_old w _ _);have d2:w2.cell? ⟨w.heap.size,2,none⟩=some (.int .i64 kb):=(cell_of_row _ _ 2 _ _ _ r0).trans rfl;have ry2:=(HC.out.2.2.2.1.below HC.out.2.2.1).kept F2 (fun q hq hs=>HC.out.2.2.2.2.1 q hs hq);rw [y1] at RX;have H2:=hid (And.intro RX (And.intro F2 ry2));clear RX F2 ry2 r2 r0 y1)
  | (go_at_call 64;refine (HC.out.2.1 w2 H2.out.2.2).mono ?_;rintro e w3 ⟨rfl,H3⟩;replace H3:=hid H3))
 go_ret
 exact ⟨rfl,both_end A HC.out.2.2.1 H2.out.1 (by omega) H2.out.2.1 HC.out.2.2.2.2.1 HC.out.2.2.2.2.2.1 HC.out.2.2.2.2.2.2 H3.out⟩
open Go.RowKit
theorem works_look {Rep:World->Nat->(Nat->Prop)->RM->Prop}(A:ApM Rep) (b:Nat) (ka kb kcc kd2 kn:Int) (ky:Bool) (m0 m2 m3 m4 m5 m6:Int) (aw:Option Addr) (nw cw:Nat) (sp:Int) (aT aP aL:Option Addr) (mT mP mL cT cP cL:Nat) (x y:Nat) (S:Nat->Prop) (K:RM) (Z:Nat->Prop) (n:Nat) (w:World) (rx:Rep w x S K) (ry:RefRep w y Z K) (ok:K.Ok n) (hgl:Gl w) (ps l1 l2 l3:Value) (rows:List (List Value)) (hb:w.heap[b]? = some (.cells #[ps,l1,l2,l3] 84 (0,0))) (hs:Sl w 138 5 l1 rows) (hr:rows.length<=1000000000000) (hne:l1.ownBlock≠some b) :
  Calls Tryz.prog 36 #[.pointer (some ⟨b,0,none⟩),.agg #[.int .i64 11,.int .i64 ka,.int .i64 kb,.int .i64 kcc,.int .i64 kd2,.int .i64 kn,.bool ky,.int .i64 m0,.slice aw nw cw,.int .i64 m2,.int .i64 m3,.int .i64 m4,.int .i64 m5,.int .i64 m6,.int .i64 sp,.slice aT mT cT,.slice aP mP cP,.slice aL mL cL],.agg #[.pointer (some ⟨x,0,none⟩),.pointer (some ⟨y,0,none⟩)]] w fun e w'=>e=.returned (.bool true)/\∃ v u v1 v2 v3 w0,Below w.heap.size w w0/\(∀ k,v.ownBlock=some k->w.heap.size<=k/\k < w0.heap.size)/\Booked 138 2 mk1 b 1 #[ps,l1,l2,l3] l1 v rows w0 u v1 v2 v3 w':=by
 have B1:Below w.heap.size w ((w.alloc (.cells #[.int .i64 11,.int .i64 ka,.int .i64 kb,.int .i64 kcc,.int .i64 kd2,.int .i64 kn,.bool ky,.int .i64 m0,.slice aw nw cw,.int .i64 m2,.int .i64 m3,.int .i64 m4,.int .i64 m5,.int .i64 m6,.int .i64 sp,.slice aT mT cT,.slice aP mP cP,.slice aL mL cL] 87)).alloc (.cells #[.pointer (some ⟨x,0,none⟩),.pointer (some ⟨y,0,none⟩)] 91)):=((Below.refl _ w).alloc (Nat.le_refl _) _).alloc (by simp) _
 have C:Calls Tryz.prog 70 #[.pointer (some ⟨b,0,none⟩),.agg #[.int .i64 11,.int .i64 ka,.int .i64 kb,.int .i64 kcc,.int .i64 kd2,.int .i64 kn,.bool ky,.int .i64 m0,.slice aw nw cw,.int .i64 m2,.int .i64 m3,.int .i64 m4,.int .i64 m5,.int .i64 m6,.int .i64 sp,.slice aT mT cT,.slice aP mP cP,.slice aL mL cL],.agg #[.pointer (some ⟨x,0,none⟩),.pointer (some ⟨y,0,none⟩)]] ((w.alloc (.cells #[.int .i64 11,.int .i64 ka,.int .i64 kb,.int .i64 kcc,.int .i64 kd2,.int .i64 kn,.bool ky,.int .i64 m0,.slice aw nw cw,.int .i64 m2,.int .i64 m3,.int .i64 m4,.int .i64 m5,.int .i64 m6,.int .i64 sp,.slice aT mT cT,.slice aP mP cP,.slice aL mL cL] 87)).alloc (.cells #[.pointer (some ⟨x,0,none⟩),.pointer (some ⟨y,0,none⟩)] 91)) fun e w'=>e=.returned (.bool true)/\∃ v u v1 v2 v3 w0,Below ((w.alloc (.cells #[.int .i64 11,.int .i64 ka,.int .i64 kb,.int .i64 kcc,.int .i64 kd2,.int .i64 kn,.bool ky,.int .i64 m0,.slice aw nw cw,.int .i64 m2,.int .i64 m3,.int .i64 m4,.int .i64 m5,.int .i64 m6,.int .i64 sp,.slice aT mT cT,.slice aP mP cP,.slice aL mL cL] 87)).alloc (.cells #[.pointer (some ⟨x,0,none⟩),.pointer (some ⟨y,0,none⟩)] 91)).heap.size ((w.alloc (.cells #[.int .i64 11,.int .i64 ka,.int .i64 kb,.int .i64 kcc,.int .i64 kd2,.int .i64 kn,.bool ky,.int .i64 m0,.slice aw nw cw,.int .i64 m2,.int .i64 m3,.int .i64 m4,.int .i64 m5,.int .i64 m6,.int .i64 sp,.slice aT mT cT,.slice aP mP cP,.slice aL mL cL] 87)).alloc (.cells #[.pointer (some ⟨x,0,none⟩),.pointer (some ⟨y,0,none⟩)] 91)) w0/\(∀ k,v.ownBlock=some k->((w.alloc (.cells #[.int .i64 11,.int .i64 ka,.int .i64 kb,.int .i64 kcc,.int .i64 kd2,.int .i64 kn,.bool ky,.int .i64 m0,.slice aw nw cw,.int .i64 m2,.int .i64 m3,.int .i64 m4,.int .i64 m5,.int .i64 m6,.int .i64 sp,.slice aT mT cT,.slice aP mP cP,.slice aL mL cL] 87)).alloc (.cells #[.pointer (some ⟨x,0,none⟩),.pointer (some ⟨y,0,none⟩)] 91)).heap.size<=k/\k < w0.heap.size)/\Booked 138 2 mk1 b 1 #[ps,l1,l2,l3] l1 v rows w0 u v1 v2 v3 w':=by
  have rx1:=A.kept rx (Fr.of_below B1 (fun _=>False)) (fun _ _ h=>h)
  have ry1:=ry.below B1
  have g1:=hgl.below B1
  have hb1:=(B1.block b (Array.getElem?_eq_some_iff.1 hb).1).trans hb
  have hs1:=hs.below B1
  by_cases ht:0<=kb/\kb < K.threads.length
  ·obtain ⟨t,rfl⟩:=Int.eq_ofNat_of_zero_le ht.1
   obtain ⟨u,hu⟩:∃ u,K.threads[t]? = some u:=⟨_,List.getElem?_eq_getElem (by omega)⟩
   exact told_look b u.ws (ok.ft.th t u hu).ws ka t kcc kd2 kn ky m0 m2 m3 m4 m5 m6 aw nw cw sp aT aP aL mT mP mL cT cP cL x y u.st u.code u.who u.got 0 ps l1 l2 l3 rows _
    (fun w2 bw=>A.look_yes x S K n t u w2 (A.kept rx1 (Fr.of_below bw (fun _=>False)) (fun _ _ h=>h)) ok hu)
    (fun w2 bw=>refLookM_yes y Z K n t u w2 (ry1.below bw) ok hu) hb1 hs1 hr hne
  ·exact told_look b [] (by simp) ka kb kcc kd2 kn ky m0 m2 m3 m4 m5 m6 aw nw cw sp aT aP aL mT mP mL cT cP cL x y 0 0 0 0 3 ps l1 l2 l3 rows _
    (fun w2 bw=>A.look_no x S K n kb w2 (g1.below bw) (A.kept rx1 (Fr.of_below bw (fun _=>False)) (fun _ _ h=>h)) ok ht)
    (fun w2 bw=>(refLookM_no y Z K n kb w2 (ry1.below bw) ok ht).mono (by rintro e w' ⟨rfl,hb⟩;exact ⟨_,rfl,(Sl.nil _ 2 1).asInl (by simp),hb⟩)) hb1 hs1 hr hne
 have R1:((w.alloc (.cells #[.int .i64 11,.int .i64 ka,.int .i64 kb,.int .i64 kcc,.int .i64 kd2,.int .i64 kn,.bool ky,.int .i64 m0,.slice aw nw cw,.int .i64 m2,.int .i64 m3,.int .i64 m4,.int .i64 m5,.int .i64 m6,.int .i64 sp,.slice aT mT cT,.slice aP mP cP,.slice aL mL cL] 87)).alloc (.cells #[.pointer (some ⟨x,0,none⟩),.pointer (some ⟨y,0,none⟩)] 91)).rangeAt w.heap.size 0 [.int .i64 11,.int .i64 ka,.int .i64 kb,.int .i64 kcc,.int .i64 kd2,.int .i64 kn,.bool ky,.int .i64 m0,.slice aw nw cw,.int .i64 m2,.int .i64 m3,.int .i64 m4,.int .i64 m5,.int .i64 m6,.int .i64 sp,.slice aT mT cT,.slice aP mP cP,.slice aL mL cL]:=fun j v hv=>by
  rw [cell_of_row _ _ (0+j) _ _ _ (heap_alloc2_old w _ _),Nat.zero_add,List.getElem?_toArray];exact hv
 have HC:=hid (And.intro C (And.intro B1 R1))
 clear R1
 clear C B1
 clear rx ry ok hgl hb hs hr hne
 go_enter Tryz.func36,Tryz.ntmps36
 go_wp2_with (first
  | (go_at_call 70;refine HC.out.1.mono ?_;rintro e w2 ⟨rfl,H2⟩;replace H2:=hid H2)
  | (with_reducible (show wpList _ _ _ (⟨_,.load 87 _,_,_,_,none⟩ :: _) _ _);go_must (refine wpList_load_mid rfl 87 _ rfl w.heap.size 0 rfl _ _ HC.out.2.2 Tryz.underlying87 rfl (by kernel_rfl) ?_)))
 go_ret
 obtain ⟨v,u,v1,v2,v3,w0,b0,vk,bk⟩:=H2.out
 refine ⟨rfl,v,u,v1,v2,v3,w0,HC.out.2.1.trans (b0.mono (by simp;omega)),fun k hk=>?_,bk⟩
 have:=vk k hk
 simp at this
 omega
theorem works_space {Rep:World->Nat->(Nat->Prop)->RM->Prop}(A:ApM Rep) (b:Nat) (ka kb kcc kd2 kn:Int) (ky:Bool) (m0 m2 m3 m4 m5 m6:Int) (aw:Option Addr) (nw cw:Nat) (sp:Int) (aT aP aL:Option Addr) (mT mP mL cT cP cL:Nat) (x y:Nat) (S:Nat->Prop) (K:RM) (Z:Nat->Prop) (n:Nat) (w:World) (rx:Rep w x S K) (ry:RefRep w y Z K) (ok:K.Ok n) (hgl:Gl w) (ps l1 l2 l3:Value) (prow lrow:List (List Value)) (hb:w.heap[b]? = some (.cells #[ps,l1,l2,l3] 84 (0,0))) (hs:Sl w 140 5 l2 prow) (hr:prow.length<=1000000000000) (hsl:Sl w 142 5 l3 lrow) (hrl:lrow.length<=1000000000000) (hne:l2.ownBlock≠some b) (hne3:l3.ownBlock≠some b) (hne23:∀ k,l2.ownBlock=some k->l3.ownBlock≠some k) :
  Calls Tryz.prog 36 #[.pointer (some ⟨b,0,none⟩),.agg #[.int .i64 12,.int .i64 ka,.int .i64 kb,.int .i64 kcc,.int .i64 kd2,.int .i64 kn,.bool ky,.int .i64 m0,.slice aw nw cw,.int .i64 m2,.int .i64 m3,.int .i64 m4,.int .i64 m5,.int .i64 m6,.int .i64 sp,.slice aT mT cT,.slice aP mP cP,.slice aL mL cL],.agg #[.pointer (some ⟨x,0,none⟩),.pointer (some ⟨y,0,none⟩)]] w fun e w'=>e=.returned (.bool true)/\∃ v u w0,Below w.heap.size w w0/\(∀ k,v.ownBlock=some k\/u.ownBlock=some k->w.heap.size<=k/\k < w0.heap.size)/\(∀ k,v.ownBlock=some k->u.ownBlock≠some k) /\
   ∃ wm pas' v1 v2 v3 lea' u1 u2 u3,Booked 140 55 mk4 b 2 #[ps,l1,l2,l3] l2 v prow w0 pas' v1 v2 v3 wm/\Booked 142 67 mk4 b 3 #[ps,l1,pas',l3] l3 u lrow wm lea' u1 u2 u3 w':=by
 have B1:Below w.heap.size w ((w.alloc (.cells #[.int .i64 12,.int .i64 ka,.int .i64 kb,.int .i64 kcc,.int .i64 kd2,.int .i64 kn,.bool ky,.int .i64 m0,.slice aw nw cw,.int .i64 m2,.int .i64 m3,.int .i64 m4,.int .i64 m5,.int .i64 m6,.int .i64 sp,.slice aT mT cT,.slice aP mP cP,.slice aL mL cL] 87)).alloc (.cells #[.pointer (some ⟨x,0,none⟩),.pointer (some ⟨y,0,none⟩)] 91)):=((Below.refl _ w).alloc (Nat.le_refl _) _).alloc (by simp) _
 have C:Calls Tryz.prog 70 #[.pointer (some ⟨b,0,none⟩),.agg #[.int .i64 12,.int .i64 ka,.int .i64 kb,.int .i64 kcc,.int .i64 kd2,.int .i64 kn,.bool ky,.int .i64 m0,.slice aw nw cw,.int .i64 m2,.int .i64 m3,.int .i64 m4,.int .i64 m5,.int .i64 m6,.int .i64 sp,.slice aT mT cT,.slice aP mP cP,.slice aL mL cL],.agg #[.pointer (some ⟨x,0,none⟩),.pointer (some ⟨y,0,none⟩)]] ((w.alloc (.cells #[.int .i64 12,.int .i64 ka,.int .i64 kb,.int .i64 kcc,.int .i64 kd2,.int .i64 kn,.bool ky,.int .i64 m0,.slice aw nw cw,.int .i64 m2,.int .i64 m3,.int .i64 m4,.int .i64 m5,.int .i64 m6,.int .i64 sp,.slice aT mT cT,.slice aP mP cP,.slice aL mL cL] 87)).alloc (.cells #[.pointer (some ⟨x,0,none⟩),.pointer (some ⟨y,0,none⟩)] 91)) fun e w'=>e=.returned (.bool true)/\∃ v u w0,Below ((w.alloc (.cells #[.int .i64 12,.int .i64 ka,.int .i64 kb,.int .i64 kcc,.int .i64 kd2,.int .i64 kn,.bool ky,.int .i64 m0,.slice aw nw cw,.int .i64 m2,.int .i64 m3,.int .i64 m4,.int .i64 m5,.int .i64 m6,.int .i64 sp,.slice aT mT cT,.slice aP mP cP,.slice aL mL cL] 87)).alloc (.cells #[.pointer (some ⟨x,0,none⟩),.pointer (some ⟨y,0,none⟩)] 91)).heap.size ((w.alloc (.cells #[.int .i64 12,.int .i64 ka,.int .i64 kb,.int .i64 kcc,.int .i64 kd2,.int .i64 kn,.bool ky,.int .i64 m0,.slice aw nw cw,.int .i64 m2,.int .i64 m3,.int .i64 m4,.int .i64 m5,.int .i64 m6,.int .i64 sp,.slice aT mT cT,.slice aP mP cP,.slice aL mL cL] 87)).alloc (.cells #[.pointer (some ⟨x,0,none⟩),.pointer (some ⟨y,0,none⟩)] 91)) w0/\(∀ k,v.ownBlock=some k\/u.ownBlock=some k->((w.alloc (.cells #[.int .i64 12,.int .i64 ka,.int .i64 kb,.int .i64 kcc,.int .i64 kd2,.int .i64 kn,.bool ky,.int .i64 m0,.slice aw nw cw,.int .i64 m2,.int .i64 m3,.int .i64 m4,.int .i64 m5,.int .i64 m6,.int .i64 sp,.slice aT mT cT,.slice aP mP cP,.slice aL mL cL] 87)).alloc (.cells #[.pointer (some ⟨x,0,none⟩),.pointer (some ⟨y,0,none⟩)] 91)).heap.size<=k/\k < w0.heap.size)/\(∀ k,v.ownBlock=some k->u.ownBlock≠some k) /\
   ∃ wm pas' v1 v2 v3 lea' u1 u2 u3,Booked 140 55 mk4 b 2 #[ps,l1,l2,l3] l2 v prow w0 pas' v1 v2 v3 wm/\Booked 142 67 mk4 b 3 #[ps,l1,pas',l3] l3 u lrow wm lea' u1 u2 u3 w':=by
  have rx1:=A.kept rx (Fr.of_below B1 (fun _=>False)) (fun _ _ h=>h)
  have ry1:=ry.below B1
  have g1:=hgl.below B1
  have hb1:=(B1.block b (Array.getElem?_eq_some_iff.1 hb).1).trans hb
  by_cases ht:0<=kb/\kb < K.sp
  ·exact told_space b ka kb kcc kd2 kn ky m0 m2 m3 m4 m5 m6 aw nw cw sp aT aP aL mT mP mL cT cP cL x y 0 (told K.passes kb 6) (told (K.leaves.map quad) kb 6) (told_le _ _ _) (told_le _ _ _) ps l1 l2 l3 prow lrow _
    (fun w2 bw=>A.space_yes x S K n kb w2 (A.kept rx1 (Fr.of_below bw (fun _=>False)) (fun _ _ h=>h)) ok ht.1 ht.2)
    (fun w2 bw=>(refSpaceM_yes y Z K n kb w2 (ry1.below bw) ok ht.1 ht.2).mono (by rintro e w' ⟨v,u,h1,h2,h3,h4,_⟩;exact ⟨v,u,h1,h2,h3,h4⟩)) hb1 (hs.below B1) hr (hsl.below B1) hrl hne hne3 hne23
  ·exact told_space b ka kb kcc kd2 kn ky m0 m2 m3 m4 m5 m6 aw nw cw sp aT aP aL mT mP mL cT cP cL x y 3 [] [] (by simp) (by simp) ps l1 l2 l3 prow lrow _
    (fun w2 bw=>A.space_no x S K n kb w2 (g1.below bw) (A.kept rx1 (Fr.of_below bw (fun _=>False)) (fun _ _ h=>h)) ok ht)
    (fun w2 bw=>(refSpaceM_no y Z K n kb w2 (ry1.below bw) ok ht).mono (by rintro e w' ⟨h1,h2⟩;exact ⟨_,_,h1,Sl.nil _ _ _,Sl.nil _ _ _,h2⟩)) hb1 (hs.below B1) hr (hsl.below B1) hrl hne hne3 hne23
 have R1:((w.alloc (.cells #[.int .i64 12,.int .i64 ka,.int .i64 kb,.int .i64 kcc,.int .i64 kd2,.int .i64 kn,.bool ky,.int .i64 m0,.slice aw nw cw,.int .i64 m2,.int .i64 m3,.int .i64 m4,.int .i64 m5,.int .i64 m6,.int .i64 sp,.slice aT mT cT,.slice aP mP cP,.slice aL mL cL] 87)).alloc (.cells #[.pointer (some ⟨x,0,none⟩),.pointer (some ⟨y,0,none⟩)] 91)).rangeAt w.heap.size 0 [.int .i64 12,.int .i64 ka,.int .i64 kb,.int .i64 kcc,.int .i64 kd2,.int .i64 kn,.bool ky,.int .i64 m0,.slice aw nw cw,.int .i64 m2,.int .i64 m3,.int .i64 m4,.int .i64 m5,.int .i64 m6,.int .i64 sp,.slice aT mT cT,.slice aP mP cP,.slice aL mL cL]:=fun j v hv=>by
  rw [cell_of_row _ _ (0+j) _ _ _ (heap_alloc2_old w _ _),Nat.zero_add,List.getElem?_toArray];exact hv
 have HC:=hid (And.intro C (And.intro B1 R1))
 clear R1
 clear C B1
 clear rx ry ok hgl hb hs hr hsl hrl hne hne3 hne23
 go_enter Tryz.func36,Tryz.ntmps36
 go_wp2_with (first
  | (go_at_call 70;refine HC.out.1.mono ?_;rintro e w2 ⟨rfl,H2⟩;replace H2:=hid H2)
  | (with_reducible (show wpList _ _ _ (⟨_,.load 87 _,_,_,_,none⟩ :: _) _ _);go_must (refine wpList_load_mid rfl 87 _ rfl w.heap.size 0 rfl _ _ HC.out.2.2 Tryz.underlying87 rfl (by kernel_rfl) ?_)))
 go_ret
 obtain ⟨v,u,w0,b0,vk,ne,bk⟩:=H2.out
 refine ⟨rfl,v,u,w0,HC.out.2.1.trans (b0.mono (by simp;omega)),fun k hk=>?_,ne,bk⟩
 have:=vk k hk
 simp at this
 omega
open Go.RowKit
structure LentW (w w2:World) (a:Option Addr) (c:Nat) (aw:Option Addr) (nw cw:Nat) (W:List Int):Prop where
 below:Below w.heap.size w w2
 inl:∀ w3,(∀ k,w.heap.size<=k->k < w2.heap.size->w3.heap[k]? = w2.heap[k]?)->Inl w3 1 (.slice a nw c) (W.map lnI)
 new:∀ k,inBlock (.slice a nw c)=some k->w.heap.size<=k/\k < w2.heap.size
 back:∀ w4,(∀ k,w.heap.size<=k->k < w2.heap.size->w4.heap[k]? = w2.heap[k]?)->Inl w4 1 (.slice aw nw cw) (W.map lnI) ->
  Calls Tryz.prog 62 #[.slice a nw c,.slice aw nw cw] w4 fun e w5=>e=.returned (.bool true)/\Fr (fun k=>w.heap.size<=k/\k < w2.heap.size) w4 w5
theorem lent_any (aw:Option Addr) (nw cw:Nat) (W:List Int) (w:World) (hl:W.length=nw) (hb:nw<=17592186044416) (hI:Inl w 1 (.slice aw nw cw) (W.map lnI)) (hn:aw=none->nw=0/\cw=0) :
  Calls Tryz.prog 61 #[.slice aw nw cw] w fun e w2=>∃ a c,e=.returned (.slice a nw c)/\LentW w w2 a c aw nw cw W:=by
 cases aw with
 | none=>
  obtain ⟨rfl,rfl⟩:=hn rfl
  have e0:W=[]:=List.eq_nil_of_length_eq_zero hl
  subst e0
  refine (lentWords_no w).mono ?_
  rintro e w2 ⟨rfl,rfl⟩
  exact ⟨none,0,rfl,Below.refl _ _,fun w3 _=>⟨by simp,by simp,none,0,rfl,by simp,.inl rfl⟩,fun k hk=>by simp [inBlock] at hk,fun w4 _ _=>(backWords_no w4).mono (by rintro e w5 ⟨rfl,rfl⟩;exact ⟨rfl,Fr.refl _ _⟩)⟩
 | some sb=>
  subst hl
  refine (lentWords_any sb cw W w hb hI).mono ?_
  rintro e w2 ⟨b,rfl,S,B,lb⟩
  have lt2:b < w2.heap.size:=S.lt rfl
  have S3:∀ w3:World,(∀ k,w.heap.size<=k->k < w2.heap.size->w3.heap[k]? = w2.heap[k]?)->Sl w3 2 1 (.slice (some ⟨b,0,none⟩) (W.length+8) (W.length+8)) (W.map lnI ++ List.replicate 8 (lnI (-77))):=fun w3 h=>by
   refine ⟨⟨S.own.1,?_⟩,S.len⟩
   rcases S.own.2 with a | ⟨g',cap,cur,e1,a1,a2,a3⟩
   ·exact .inl a
   ·have e2:=e1
    simp only [Value.slice.injEq,Option.some.injEq,Addr.mk.injEq,and_true] at e2
    obtain ⟨e2a,_⟩:=e2
    subst e2a
    exact .inr ⟨b,cap,cur,e1,a1,(h b lb lt2).trans a2,a3⟩
  refine ⟨_,_,rfl,B,fun w3 h=>?_,fun k hk=>?_,fun w4 h hI4=>?_⟩
  ·have h3:=S3 w3 h
   refine ⟨fun r hr=>by obtain ⟨z,_,rfl⟩:=List.mem_map.1 hr;rfl,fun r hr u hu=>?_,some ⟨b,0,none⟩,W.length+8,by simp,by simp;unfold maxLen;omega,.inr ⟨b,0,rfl,fun j v hv=>?_⟩⟩
   ·obtain ⟨z,_,rfl⟩:=List.mem_map.1 hr
    simp [lnI] at hu;subst hu;rfl
   ·have hj:(W.map lnI)[j]? = some [v]:=by
     have e:(W.map lnI).flatten=W.map (Value.int .i64):=by
      clear h3 S3 S hI hv hb
      induction W with
      | nil=>rfl
      | cons z r ih=>simp [lnI,ih]
     rw [e,List.getElem?_map] at hv
     rw [List.getElem?_map]
     rcases hx:W[j]? with _ | z
     ·rw [hx] at hv;simp at hv
     ·rw [hx] at hv;simp at hv;subst hv;rfl
    have hjl:=(List.getElem?_eq_some_iff.1 hj).1
    have hr:=h3.row (i:=j) (r:=[v]) (by rw [List.getElem?_append_left hjl];exact hj) 0 v rfl
    simpa using hr
  ·have:k=b:=by
    cases W with
    | nil=>simp [inBlock] at hk
    | cons z r=>simp [inBlock] at hk;exact hk.symm
   omega
  ·refine (backWords_any sb cw W b w4 hb hI4 (fun q hq=>?_) (S3 w4 h)).mono ?_
   ·have:=hI.inlt' (by omega) hq;omega
   ·rintro e w5 ⟨rfl,F⟩
    exact ⟨rfl,F.mono (fun k _ e=>by subst e;exact ⟨lb,lt2⟩)⟩
theorem refIpcM (y:Nat) (Z:Nat->Prop) (K:RM) (n:Nat) (m:Ms) (sa:Option Addr) (sc:Nat) (w:World) (h:RefRep w y Z K) (ok:K.Ok n) (hn:n<=1000000000000000) (hI:Inl w 1 (.slice sa m.words.length sc) (m.words.map lnI)) :
  Calls Tryz.prog 63 #[.pointer (some ⟨y,0,none⟩),msV m sa sc] w fun e w'=>e=.returned (.int .i64 (K.ipc m).1)/\Left RefRep y Z (K.ipc m).2 w w':=by
 obtain ⟨vt,vp,vl,sl,h,rfl⟩:=h
 refine (rmIpc_any y K vt vp vl sl m sa sc w h ok.ft hI ok.ap ok.oq (by have:=ok.bq;omega) (ok.room (by omega))).mono ?_
 rintro e w' ⟨rfl,vl',sl',ho⟩
 exact ⟨rfl,ho.left⟩
abbrev mCells (m0 m2 m3 m4 m5 m6:Int) (a:Option Addr) (n c:Nat):Array Value:=#[.int .i64 m0,.slice a n c,.int .i64 m2,.int .i64 m3,.int .i64 m4,.int .i64 m5,.int .i64 m6]
abbrev opCells (ka kb kcc kd2 kn:Int) (ky:Bool) (m0 m2 m3 m4 m5 m6:Int) (aw:Option Addr) (nw cw:Nat) (sp:Int) (aT aP aL:Option Addr) (mT mP mL cT cP cL:Nat):Array Value:=#[.int .i64 4,.int .i64 ka,.int .i64 kb,.int .i64 kcc,.int .i64 kd2,.int .i64 kn,.bool ky,.int .i64 m0,.slice aw nw cw,.int .i64 m2,.int .i64 m3,.int .i64 m4,.int .i64 m5,.int .i64 m6,.int .i64 sp,.slice aT mT cT,.slice aP mP cP,.slice aL mL cL]
theorem range7 {w:World}{b:Nat}{ka kb kcc kd2 kn:Int}{ky:Bool}{m0 m2 m3 m4 m5 m6:Int}{aw:Option Addr}{nw cw:Nat}{sp:Int}{aT aP aL:Option Addr}{mT mP mL cT cP cL:Nat}{t:TypeId}
  (h:w.heap[b]? = some (.cells (opCells ka kb kcc kd2 kn ky m0 m2 m3 m4 m5 m6 aw nw cw sp aT aP aL mT mP mL cT cP cL) t (0,0))):w.rangeAt b 7 (mCells m0 m2 m3 m4 m5 m6 aw nw cw).toList:=fun j v hv=>by
 rw [cell_of_row w b (7+j) _ _ _ h]
 have hj:j < 7:=(List.getElem?_eq_some_iff.1 hv).1
 have:j=0\/j=1\/j=2\/j=3\/j=4\/j=5\/j=6:=by omega
 rcases this with rfl | rfl | rfl | rfl | rfl | rfl | rfl <;> exact hv
theorem range0 {w:World}{b:Nat}{m0 m2 m3 m4 m5 m6:Int}{a:Option Addr}{n c:Nat}{t:TypeId}
  (h:w.heap[b]? = some (.cells (mCells m0 m2 m3 m4 m5 m6 a n c) t (0,0))):w.rangeAt b 0 (mCells m0 m2 m3 m4 m5 m6 a n c).toList:=fun j v hv=>by
 rw [cell_of_row w b (0+j) _ _ _ h,Nat.zero_add,List.getElem?_toArray];exact hv
theorem both_ipc {Rep:World->Nat->(Nat->Prop)->RM->Prop}(A:ApM Rep){x y:Nat}{S Z:Nat->Prop}{K2:RM}{w w1 w2 w3 w4 w5 w6:World}(B1:Below w.heap.size w w1) (_z2:w1.heap.size<=w2.heap.size) (z23:w3.heap.size=w2.heap.size) (B3:Below w.heap.size w w3) (L4:Left Rep x S K2 w3 w4) (F5:Fr (fun k=>w1.heap.size<=k/\k < w2.heap.size) w4 w5) (hd:∀ k,S k->¬ Z k) (hs:∀ q,S q->q < w.heap.size) (hz:∀ q,Z q->q < w.heap.size) (L6:Left RefRep y Z K2 w5 w6):Both Rep x y S Z K2 w w6:=by
 obtain ⟨⟨S',rs,so⟩,f4⟩:=L4
 have s1:=B1.size
 have FS:Fr S w w5:=((Fr.of_below B3 S).trans f4).join F5 |>.mono (fun k hk e=>by
  rcases e with e | e
  ·exact e
  ·omega)
 refine both_end A (w1:=w) (w2:=w5) (m:=w3.heap.size) (Below.refl _ _) ⟨S',A.kept rs F5 (fun k hk e=>?_),so⟩ B3.size FS hd hs hz L6
 rcases so k hk with h | h
 ·have:=hs k h;omega
 ·omega
structure MidI (w w2 w3:World) (oc:Array Value) (x y:Nat) (m0 m2 m3 m4 m5 m6:Int) (a:Option Addr) (n c:Nat):Prop where
 r0:w3.heap[w.heap.size]? = some (.cells oc 87 (0,0))
 r1:w3.heap[w.heap.size+1]? = some (.cells #[.pointer (some ⟨x,0,none⟩),.pointer (some ⟨y,0,none⟩)] 91 (0,0))
 r2:w3.heap[w.heap.size+1+1]? = some (.cells (mCells m0 m2 m3 m4 m5 m6 a n c) 43 (0,0))
 bl:Below w.heap.size w w3
 sz:w3.heap.size=w2.heap.size
 z3:w.heap.size+3<=w2.heap.size
 eq:∀ k,w.heap.size+3<=k->k < w2.heap.size->w3.heap[k]? = w2.heap[k]?
theorem ipc_mid {w w2:World}{oc:Array Value}{x y:Nat}{m0 m2 m3 m4 m5 m6:Int}{aw:Option Addr}{nw cw:Nat}(a:Option Addr) (c:Nat)
  (B:Below (((w.alloc (.cells oc 87)).alloc (.cells #[.pointer (some ⟨x,0,none⟩),.pointer (some ⟨y,0,none⟩)] 91)).alloc (.cells (mCells m0 m2 m3 m4 m5 m6 aw nw cw) 43)).heap.size (((w.alloc (.cells oc 87)).alloc (.cells #[.pointer (some ⟨x,0,none⟩),.pointer (some ⟨y,0,none⟩)] 91)).alloc (.cells (mCells m0 m2 m3 m4 m5 m6 aw nw cw) 43)) w2) :
  w2.cell? ⟨w.heap.size+1+1,1,none⟩=some (.slice aw nw cw)/\w2.frozen? ⟨w.heap.size+1+1,1,none⟩=false/\MidI w w2 (w2.setCell ⟨w.heap.size+1+1,1,none⟩ (.slice a nw c)) oc x y m0 m2 m3 m4 m5 m6 a nw c:=by
 have hz:(((w.alloc (.cells oc 87)).alloc (.cells #[.pointer (some ⟨x,0,none⟩),.pointer (some ⟨y,0,none⟩)] 91)).alloc (.cells (mCells m0 m2 m3 m4 m5 m6 aw nw cw) 43)).heap.size=w.heap.size+3:=by simp
 rw [hz] at B
 have z3:=B.size
 rw [hz] at z3
 have q0:w2.heap[w.heap.size]? = some (.cells oc 87 (0,0)):=(B.block _ (by omega)).trans ((Below.heap_alloc _ _ _ (by simp;omega)).trans (heap_alloc2_old w _ _))
 have q1:w2.heap[w.heap.size+1]? = some (.cells #[.pointer (some ⟨x,0,none⟩),.pointer (some ⟨y,0,none⟩)] 91 (0,0)):=(B.block _ (by omega)).trans ((Below.heap_alloc _ _ _ (by simp)).trans (heap_alloc2_new w _ _))
 have q2:w2.heap[w.heap.size+1+1]? = some (.cells (mCells m0 m2 m3 m4 m5 m6 aw nw cw) 43 (0,0)):=(B.block _ (by omega)).trans (by
  have:=heap_alloc_new ((w.alloc (.cells oc 87)).alloc (.cells #[.pointer (some ⟨x,0,none⟩),.pointer (some ⟨y,0,none⟩)] 91)) (.cells (mCells m0 m2 m3 m4 m5 m6 aw nw cw) 43)
  simpa using this)
 have F:Fr (fun k=>k=w.heap.size+1+1) w2 (w2.setCell ⟨w.heap.size+1+1,1,none⟩ (.slice a nw c)):=(Fr.refl (fun k=>k=w.heap.size+1+1) w2).setCell (p:=⟨w.heap.size+1+1,1,none⟩) (fun _=>rfl) _
 have B0:Below w.heap.size w w2:=((((Below.refl _ w).alloc (Nat.le_refl _) _).alloc (by simp) _).alloc (by simp;omega) _).trans (B.mono (by omega))
 have hsz:(w2.setCell ⟨w.heap.size+1+1,1,none⟩ (.slice a nw c)).heap.size=w2.heap.size:=by simp [World.setCell]
 exact ⟨(cell_of_row w2 _ 1 _ _ _ q2).trans rfl,frozen_of_row _ _ _ _ _ q2,⟨(F.block _ (by omega) (by omega)).trans q0,(F.block _ (by omega) (by omega)).trans q1,heap_setCell_same w2 _ 1 _ 43 _ q2,B0.trans (F.to_below B0.size (fun k e=>by omega)),hsz,z3,fun k h1 h2=>F.block k h2 (by omega)⟩⟩
theorem ipc_back {Rep:World->Nat->(Nat->Prop)->RM->Prop}{w w2 w3 w4:World}{oc:Array Value}{x y:Nat}{S:Nat->Prop}{K2:RM}{m0 m2 m3 m4 m5 m6:Int}{a:Option Addr}{n c:Nat}(hs:∀ q,S q->q < w.heap.size) (M:MidI w w2 w3 oc x y m0 m2 m3 m4 m5 m6 a n c) (L:Left Rep x S K2 w3 w4) :
  w4.heap[w.heap.size]? = some (.cells oc 87 (0,0))/\w4.heap[w.heap.size+1]? = some (.cells #[.pointer (some ⟨x,0,none⟩),.pointer (some ⟨y,0,none⟩)] 91 (0,0))/\w4.heap[w.heap.size+1+1]? = some (.cells (mCells m0 m2 m3 m4 m5 m6 a n c) 43 (0,0))/\(∀ k,w.heap.size+3<=k->k < w2.heap.size->w4.heap[k]? = w2.heap[k]?)/\Fr (fun q=>S q) w w4:=by
 have F:=L.2
 have n0:∀ k,w.heap.size<=k->¬ S k:=fun k hk h=>by have:=hs k h;omega
 have z:=M.z3
 have z2:=M.sz
 exact ⟨(F.block _ (by omega) (n0 _ (by omega))).trans M.r0,(F.block _ (by omega) (n0 _ (by omega))).trans M.r1,(F.block _ (by omega) (n0 _ (by omega))).trans M.r2,fun k h1 h2=>(F.block k (by omega) (n0 k (by omega))).trans (M.eq k h1 h2),(Fr.of_below M.bl _).trans F⟩
theorem ipc_last {Rep:World->Nat->(Nat->Prop)->RM->Prop}{w w2 w3 w4 w5:World}{oc:Array Value}{x y:Nat}{S:Nat->Prop}{K2:RM}{m0 m2 m3 m4 m5 m6:Int}{a:Option Addr}{n c:Nat}(_hs:∀ q,S q->q < w.heap.size) (M:MidI w w2 w3 oc x y m0 m2 m3 m4 m5 m6 a n c) (L:Left Rep x S K2 w3 w4)
  (B:w4.heap[w.heap.size]? = some (.cells oc 87 (0,0))/\w4.heap[w.heap.size+1]? = some (.cells #[.pointer (some ⟨x,0,none⟩),.pointer (some ⟨y,0,none⟩)] 91 (0,0))/\w4.heap[w.heap.size+1+1]? = some (.cells (mCells m0 m2 m3 m4 m5 m6 a n c) 43 (0,0))/\(∀ k,w.heap.size+3<=k->k < w2.heap.size->w4.heap[k]? = w2.heap[k]?)/\Fr (fun q=>S q) w w4) (F5:Fr (fun k=>w.heap.size+3<=k/\k < w2.heap.size) w4 w5) :
  w5.heap[w.heap.size]? = some (.cells oc 87 (0,0))/\w5.heap[w.heap.size+1]? = some (.cells #[.pointer (some ⟨x,0,none⟩),.pointer (some ⟨y,0,none⟩)] 91 (0,0))/\Fr (fun q=>S q) w w5:=by
 have z:=M.z3
 have z2:=M.sz
 have z4:=L.2.size
 exact ⟨(F5.block _ (by omega) (by omega)).trans B.1,(F5.block _ (by omega) (by omega)).trans B.2.1,(B.2.2.2.2.join F5).mono (fun k hk e=>by
  rcases e with e | e
  ·exact e
  ·omega)⟩
theorem works_ipc {Rep:World->Nat->(Nat->Prop)->RM->Prop}(A:ApM Rep) (b:Nat) (ka kb kcc kd2 kn:Int) (ky:Bool) (m0 m2 m3 m4 m5 m6:Int) (aw:Option Addr) (nw cw:Nat) (sp:Int) (aT aP aL:Option Addr) (mT mP mL cT cP cL:Nat) (W:List Int) (x y:Nat) (S:Nat->Prop) (K:RM) (Z:Nat->Prop) (n:Nat) (w:World) (hg:Gl w) (rx:Rep w x S K) (ry:RefRep w y Z K) (ok:K.Ok n) (hn:n<=1000000000000000) (hd:∀ k,S k->¬ Z k)
  (hl:W.length=nw) (hb:nw<=17592186044416) (hw0:aw=none->nw=0/\cw=0) (hI:Inl w 1 (.slice aw nw cw) (W.map lnI)) (hWI:∀ w1 T,Fr T w w1->(∀ k,k < w.heap.size->T k->S k\/Z k)->Inl w1 1 (.slice aw nw cw) (W.map lnI)) :
  Calls Tryz.prog 36 #[.pointer (some ⟨b,0,none⟩),.agg (opCells ka kb kcc kd2 kn ky m0 m2 m3 m4 m5 m6 aw nw cw sp aT aP aL mT mP mL cT cP cL),.agg #[.pointer (some ⟨x,0,none⟩),.pointer (some ⟨y,0,none⟩)]] w fun e w'=>e=.returned (.bool true)/\Both Rep x y S Z (K.ipc ⟨m0,W,m2,m3,m4,m5,m6⟩).2 w w':=by
 have B1:Below w.heap.size w (((w.alloc (.cells (opCells ka kb kcc kd2 kn ky m0 m2 m3 m4 m5 m6 aw nw cw sp aT aP aL mT mP mL cT cP cL) 87)).alloc (.cells #[.pointer (some ⟨x,0,none⟩),.pointer (some ⟨y,0,none⟩)] 91)).alloc (.cells (mCells m0 m2 m3 m4 m5 m6 aw nw cw) 43)):=(((Below.refl _ w).alloc (Nat.le_refl _) _).alloc (by simp) _).alloc (by simp;omega) _
 have hs:∀ q,S q->q < w.heap.size:=fun q hq=>A.lt rx q hq
 have hyl:∀ q,Z q->q < w.heap.size:=fun q hq=>ry.lt hq
 have HL:Hid (∀ w1,Below w.heap.size w w1->Calls Tryz.prog 61 #[.slice aw nw cw] w1 fun e w2=>∃ a c,e=.returned (.slice a nw c)/\LentW w1 w2 a c aw nw cw W):=fun w1 bw=>lent_any aw nw cw W w1 hl hb (hI.below (by omega) bw) hw0
 generalize hc:(K.ipc ⟨m0,W,m2,m3,m4,m5,m6⟩).1=cd
 generalize hK2:(K.ipc ⟨m0,W,m2,m3,m4,m5,m6⟩).2=K2
 have HX:Hid (∀ (w1 w2 w3:World) (a:Option Addr) (c:Nat),Below w.heap.size w w1->LentW w1 w2 a c aw nw cw W->(∀ k,w1.heap.size<=k->k < w2.heap.size->w3.heap[k]? = w2.heap[k]?)->Below w.heap.size w w3->Calls Tryz.prog 23 #[.pointer (some ⟨x,0,none⟩),.agg (mCells m0 m2 m3 m4 m5 m6 a nw c)] w3 fun e w4=>e=.returned (.int .i64 cd)/\Left Rep x S K2 w3 w4):=fun w1 w2 w3 a c b1 l e3 b3=>by
  have:=A.ipc x S K n ⟨m0,W,m2,m3,m4,m5,m6⟩ a c w3 (hg.below b3) (A.kept rx (Fr.of_below b3 (fun _=>False)) (fun _ _ h=>h)) ok hn (by rw [show (Ms.mk m0 W m2 m3 m4 m5 m6).words.length=nw from hl];exact l.inl w3 e3) (fun k hk hS=>by rw [show (Ms.mk m0 W m2 m3 m4 m5 m6).words.length=nw from hl] at hk;have:=(l.new k hk).1;have:=hs k hS;have:=b1.size;omega)
  unfold msV at this
  rw [show (Ms.mk m0 W m2 m3 m4 m5 m6).words.length=nw from hl,hc,hK2] at this
  exact this
 have HY:Hid (∀ w5,Fr (fun q=>S q) w w5->Calls Tryz.prog 63 #[.pointer (some ⟨y,0,none⟩),.agg (mCells m0 m2 m3 m4 m5 m6 aw nw cw)] w5 fun e w6=>e=.returned (.int .i64 cd)/\Left RefRep y Z K2 w5 w6):=fun w5 f=>by
  have:=refIpcM y Z K n ⟨m0,W,m2,m3,m4,m5,m6⟩ aw cw w5 (ry.kept f (fun k hz hs=>hd k hs hz)) ok hn (by rw [show (Ms.mk m0 W m2 m3 m4 m5 m6).words.length=nw from hl];exact hWI w5 _ f (fun k _ e=>.inl e))
  unfold msV at this
  rw [show (Ms.mk m0 W m2 m3 m4 m5 m6).words.length=nw from hl,hc,hK2] at this
  exact this
 have HW:Hid (∀ w4,Fr (fun q=>S q) w w4->Inl w4 1 (.slice aw nw cw) (W.map lnI)):=fun w4 f=>hWI w4 _ f (fun k _ e=>.inl e)
 have HB:=hid (And.intro B1 (And.intro hd (And.intro hs hyl)))
 have hq1:(cd == cd)=true:=by simp
 have R0:=hid (range7 (t:=87) (heap_alloc2_old w (.cells (opCells ka kb kcc kd2 kn ky m0 m2 m3 m4 m5 m6 aw nw cw sp aT aP aL mT mP mL cT cP cL) 87) (.cells #[.pointer (some ⟨x,0,none⟩),.pointer (some ⟨y,0,none⟩)] 91)))
 clear hc hK2 B1 hs hyl hg rx ry ok hn hd hl hb hw0 hI hWI
 go_enter Tryz.func36,Tryz.ntmps36
 go_wp2_with (first
  | (with_reducible (show wpList _ _ _ (⟨_,.load 43 (.tmp 38),_,_,_,none⟩ :: _) _ _);go_must (refine wpList_load_mid rfl 43 _ rfl w.heap.size 7 rfl _ _ R0.out Tryz.underlying43 rfl (by kernel_rfl) ?_))
  | (with_reducible (show wpList _ _ _ (⟨_,.store 43 _ _,_,_,_,none⟩ :: _) _ _);go_must (refine wpList_store_new rfl 43 _ _ rfl _ _ (mCells m0 m2 m3 m4 m5 m6 aw nw cw) 43 (by simp [Act.eval]) rfl (by kernel_rfl) rfl ?_ ?_);go_must (simp [Value.oneCell']))
  | (go_at_call 61;refine (HL.out _ HB.out.1).mono ?_;rintro e w2 ⟨a2,c2,rfl,L2⟩;obtain ⟨cb1,fb1,M3⟩:=ipc_mid a2 c2 L2.below;replace L2:=hid L2;have px3:=(cell_of_row _ _ 0 _ _ _ M3.r1).trans (show _=some (Value.pointer (some ⟨x,0,none⟩)) from rfl);replace M3:=hid M3)
  | (with_reducible (show wpList _ _ _ (⟨_,.load 43 (.tmp 10),_,_,_,none⟩ :: _) _ _);go_must (refine wpList_load_mid rfl 43 _ rfl (w.heap.size+1+1) 0 rfl _ _ (range0 M3.out.r2) Tryz.underlying43 rfl (by kernel_rfl) ?_))
  | (go_at_call 23;refine (HX.out _ w2 _ a2 c2 HB.out.1 L2.out (by simpa using M3.out.eq) M3.out.bl).mono ?_;rintro e w4 ⟨rfl,L4⟩;have q:=ipc_back HB.out.2.2.1 M3.out L4;have wb4:=(cell_of_row w4 _ 1 _ _ _ q.2.2.1).trans (show _=some (Value.slice a2 nw c2) from rfl);have ww4:=(cell_of_row w4 _ 8 _ _ _ q.1).trans (show _=some (Value.slice aw nw cw) from rfl);have L4:=hid (And.intro L4 q);clear q)
  | (go_at_call 62;refine (L2.out.back w4 (by simpa using L4.out.2.2.2.2.1) (HW.out w4 L4.out.2.2.2.2.2)).mono ?_;rintro e w5 ⟨rfl,F5⟩;have q:=ipc_last HB.out.2.2.1 M3.out L4.out.1 L4.out.2 (by simpa using F5);have py5:=(cell_of_row w5 _ 1 _ _ _ q.2.1).trans (show _=some (Value.pointer (some ⟨y,0,none⟩)) from rfl);have H5:=hid (And.intro F5 q);clear q F5)
  | (with_reducible (show wpList _ _ _ (⟨_,.load 43 (.tmp 57),_,_,_,none⟩ :: _) _ _);go_must (refine wpList_load_mid rfl 43 _ rfl w.heap.size 7 rfl _ _ (range7 H5.out.2.1) Tryz.underlying43 rfl (by kernel_rfl) ?_))
  | (go_at_call 63;refine (HY.out w5 H5.out.2.2.2).mono ?_;rintro e w6 ⟨rfl,L6⟩;replace L6:=hid L6))
 go_ret
 exact ⟨rfl,both_ipc A HB.out.1 (by have:=M3.out.z3;simpa using this) M3.out.sz M3.out.bl L4.out.1 H5.out.1 HB.out.2.1 HB.out.2.2.1 HB.out.2.2.2 L6.out⟩
open Go.RowKit
structure OpV where
 kd:Int
 ka:Int
 kb:Int
 kcc:Int
 kd2:Int
 kn:Int
 ky:Bool
 m0:Int
 m2:Int
 m3:Int
 m4:Int
 m5:Int
 m6:Int
 aw:Option Addr
 nw:Nat
 cw:Nat
 sp:Int
 aT:Option Addr
 aP:Option Addr
 aL:Option Addr
 mT:Nat
 mP:Nat
 mL:Nat
 cT:Nat
 cP:Nat
 cL:Nat
 T:List (Int×Int)
 Q:List (Int×Int×Int×Int)
 L:List (Int×Int×Int×Int)
 W:List Int
def OpV.row (v:OpV):List Value:=[.int .i64 v.kd,.int .i64 v.ka,.int .i64 v.kb,.int .i64 v.kcc,.int .i64 v.kd2,.int .i64 v.kn,.bool v.ky,.int .i64 v.m0,.slice v.aw v.nw v.cw,.int .i64 v.m2,.int .i64 v.m3,.int .i64 v.m4,.int .i64 v.m5,.int .i64 v.m6,.int .i64 v.sp,.slice v.aT v.mT v.cT,.slice v.aP v.mP v.cP,.slice v.aL v.mL v.cL]
structure OpV.Ok (v:OpV) (w:World):Prop where
 iT:Inl w 2 (.slice v.aT v.mT v.cT) (v.T.map tRow)
 iP:Inl w 4 (.slice v.aP v.mP v.cP) (v.Q.map qRow)
 iL:Inl w 4 (.slice v.aL v.mL v.cL) (v.L.map qRow)
 eT:v.T.length=v.mT
 eP:v.Q.length=v.mP
 eL:v.L.length=v.mL
 bT:v.mT<=8796093022208
 bP:v.mP<=4398046511104
 bL:v.mL<=4398046511104
 a1:-9223372036854775808<=v.ka
 a2:v.ka<=9223372036854775807
 iW:Inl w 1 (.slice v.aw v.nw v.cw) (v.W.map lnI)
 eW:v.W.length=v.nw
 bW:v.nw<=17592186044416
 nW:v.aw=none->v.nw=0/\v.cw=0
theorem OpV.Ok.below {v:OpV}{w w':World}(h:v.Ok w) (hb:Below w.heap.size w w'):v.Ok w':=⟨h.iT.below (by omega) hb,h.iP.below (by omega) hb,h.iL.below (by omega) hb,h.eT,h.eP,h.eL,h.bT,h.bP,h.bL,h.a1,h.a2,h.iW.below (by omega) hb,h.eW,h.bW,h.nW⟩
def Stepped (Rep:World->Nat->(Nat->Prop)->RM->Prop) (o:Nat->Nat) (b n m:Nat) (w:World) (w':World):Prop:=
 ∃ o' ps lv rows prs,Inv Rep o' b (n+1) w' ps lv rows prs/\m<=prs.length/\0 < prs.length/\∀ p,Loc o 0 p w->Loc o' 0 p w'
section
variable {Rep:World->Nat->(Nat->Prop)->RM->Prop}(A:ApM Rep){o:Nat->Nat}{b n:Nat}{w:World}{ps:Value}{lv:Nat->Value}{rows:Nat->List (List Value)}{prs:List Pr}
theorem Loc.belowStay {o o':Nat->Nat}{p:World->Prop}{w w':World}(h:Loc o 0 p w) (hb:Below w.heap.size w w') (ho:∀ k,k < w.heap.size->o' k=o k):Loc o' 0 p w':=
 h.kept (Fr.of_below hb (fun _=>False)) (fun _ _ h=>h.elim) (fun k hk e=>(ho k hk).trans e)
include A in
theorem step_below (h:Inv Rep o b n w ps lv rows prs) (hp:0 < prs.length){w':World}(hb:Below w.heap.size w w'):Stepped Rep o b n prs.length w w':=
 ⟨o,ps,lv,rows,prs,(h.below A hb (fun _ _=>rfl)).mono (by omega),Nat.le_refl _,hp,fun p hl=>hl.belowStay hb (fun _ _=>rfl)⟩
include A in
theorem step_made (h:Inv Rep o b n w ps lv rows prs) (hp:0 < prs.length) (hn:n<=999999999999) (v:OpV) (hv:v.Ok w) :
  Calls Tryz.prog 34 #[.pointer (some ⟨b,0,none⟩),.agg v.row.toArray] w fun e w'=>e=.returned (.bool true)/\Stepped Rep o b n prs.length w w':=by
 by_cases hf:Fits v.sp v.T v.Q v.L
 ·have bq:v.Q.length<=1000000000000:=Nat.le_trans (q18 hf.1.2 hf.2.2.2.1 hf.2.2.2.2.1) (by omega)
  have bl:v.L.length<=1000000000000:=Nat.le_trans (q18 hf.1.2 hf.2.2.2.2.2.1 hf.2.2.2.2.2.2) (by omega)
  refine (made_yes A b v.kd v.ka v.kb v.kcc v.kd2 v.kn v.ky v.m0 v.m2 v.m3 v.m4 v.m5 v.m6 v.aw v.nw v.cw v.sp v.aT v.aP v.aL v.mT v.mP v.mL v.cT v.cP v.cL v.T v.Q v.L w h.lg.now hv.bT hv.bP hv.bL hv.eT hv.eP hv.eL hv.iT hv.iP hv.iL hf bq bl ps (lv 1) (lv 2) (lv 3) (prs.map prRow) h.lb.now h.ls.now (by have:=h.nq;simp;omega) (fun e=>by have:=h.cs b e;have:=h.cb;omega)).mono ?_
  rintro e w' ⟨rfl,x,y,S,Z,ps',M⟩
  refine ⟨rfl,_,_,_,_,_,h.push A M (new_okM hf _),by simp,by simp,fun p hl=>hl.kept M.fr (fun k _ ht=>?_) (fun k hk e=>?_)⟩
  ·rcases ht with rfl | ht
   ·rw [h.cb];omega
   ·rw [h.cs k ht];omega
  ·unfold oPush;rw [if_pos hk];exact e
 ·refine (made_no A b v.kd v.ka v.kb v.kcc v.kd2 v.kn v.ky v.m0 v.m2 v.m3 v.m4 v.m5 v.m6 v.aw v.nw v.cw v.sp v.aT v.aP v.aL v.mT v.mP v.mL v.cT v.cP v.cL v.T v.Q v.L w h.lg.now hv.bT hv.bP hv.bL hv.eT hv.eP hv.eL hv.iT hv.iP hv.iL hf).mono ?_
  rintro e w' ⟨rfl,hb⟩
  exact ⟨rfl,step_below A h hp hb⟩
include A in
theorem step_both (h:Inv Rep o b n w ps lv rows prs){i:Nat}{p:Pr}(hp:prs[i]? = some p){K':RM}(hok:K'.Ok (n+1)){w':World}(hB:Both Rep p.x p.y p.S p.Z K' w w') :
  Stepped Rep o b n prs.length w w':=by
 classical
 obtain ⟨S',Z',hx,hy,hf,hs,hr,hd⟩:=hB
 have hT:∀ k,k < w.heap.size->(p.S k\/p.Z k)->o k=8+2*i\/o k=9+2*i:=by
  rintro k _ (e | e)
  ·exact .inl (h.cx i p hp k e)
  ·exact .inr (h.cy i p hp k e)
 have hil:=(List.getElem?_eq_some_iff.1 hp).1
 refine ⟨fun k=>if k < w.heap.size then o k else if Z' k then 9+2*i else 8+2*i,ps,lv,rows,prs.set i ⟨p.x,p.y,S',K',Z'⟩,h.pair A (p':=⟨p.x,p.y,S',K',Z'⟩) hp rfl rfl hf hT (fun k hk=>if_pos hk) hx (fun k hk=>?_) hy (fun k hk=>?_) hok,by simp,by simp;omega,fun q hl=>hl.kept hf (fun k hk ht e=>?_) (fun k hk e=>by simp only [if_pos hk];exact e)⟩
 ·rcases hs k hk with e | e
  ·have hlt:=A.lt (h.lx i p hp).now k e
   simp only [if_pos hlt]
   exact h.cx i p hp k e
  ·simp only [if_neg (show ¬ k < w.heap.size by omega),if_neg (hd k hk)]
 ·rcases hr k hk with e | e
  ·have hlt:=(h.ly i p hp).now.lt e
   simp only [if_pos hlt]
   exact h.cy i p hp k e
  ·simp only [if_neg (show ¬ k < w.heap.size by omega)]
   exact if_pos hk
 ·have:=hT k hk ht
  omega
include A in
theorem step_works (h:Inv Rep o b n w ps lv rows prs) (hn:n<=999999999999){i:Nat}{p:Pr}(hp:prs[i]? = some p) (v:OpV) (hv:Loc o 0 v.Ok w) (hk:v.kd=2\/v.kd=3\/v.kd=4\/v.kd=5\/v.kd=6\/v.kd=7\/v.kd=8\/v.kd=9\/v.kd=10\/v.kd=11\/v.kd=12) :
  Calls Tryz.prog 36 #[.pointer (some ⟨b,0,none⟩),.agg v.row.toArray,.agg #[.pointer (some ⟨p.x,0,none⟩),.pointer (some ⟨p.y,0,none⟩)]] w fun e w'=>e=.returned (.bool true)/\Stepped Rep o b n prs.length w w':=by
 have hil:=(List.getElem?_eq_some_iff.1 hp).1
 have rx:=(h.lx i p hp).now
 have ry:=(h.ly i p hp).now
 have ok:=h.ok i p hp
 have hd:∀ k,p.S k->¬ p.Z k:=fun k e1 e2=>by have:=h.cx i p hp k e1;have:=h.cy i p hp k e2;omega
 obtain ⟨kd,ka,kb,kcc,kd2,kn,ky,m0,m2,m3,m4,m5,m6,aw,nw,cw,sp,aT,aP,aL,mT,mP,mL,cT,cP,cL,T,Q,L,W⟩:=v
 simp only at hk
 rcases hk with rfl | rfl | rfl | rfl | rfl | rfl | rfl | rfl | rfl | rfl | rfl
 ·refine (works_current A b ka kb kcc kd2 kn ky m0 m2 m3 m4 m5 m6 aw nw cw sp aT aP aL mT mP mL cT cP cL p.x p.y p.S p.K p.Z n w rx ry ok).mono ?_
  rintro e w' ⟨rfl,hb⟩
  exact ⟨rfl,step_below A h (by omega) hb⟩
 ·refine (works_tick A b ka kb kcc kd2 kn ky m0 m2 m3 m4 m5 m6 aw nw cw sp aT aP aL mT mP mL cT cP cL p.x p.y p.S p.K p.K.tick p.Z w rx ry hd (fun w1 bw=>A.tick p.x p.S p.K n w1 (A.kept rx (Fr.of_below bw (fun _=>False)) (fun _ _ h=>h)) ok (by omega)) (fun w2 ry2=>refRuns.tick p.y p.Z p.K n w2 ry2 ok (by omega))).mono ?_
  rintro e w' ⟨rfl,hB⟩
  exact ⟨rfl,step_both A h hp ok.tick hB⟩
 ·refine (works_ipc A b ka kb kcc kd2 kn ky m0 m2 m3 m4 m5 m6 aw nw cw sp aT aP aL mT mP mL cT cP cL W p.x p.y p.S p.K p.Z n w h.lg.now rx ry ok (by omega) hd hv.now.eW hv.now.bW hv.now.nW hv.now.iW (fun w1 T f t=>(hv w1 T f (fun k hk ht e=>by
   rcases t k hk ht with g | g
   ·have:=h.cx i p hp k g;omega
   ·have:=h.cy i p hp k g;omega)).iW)).mono ?_
  rintro e w' ⟨rfl,hB⟩
  exact ⟨rfl,step_both A h hp (ok.ipc _) hB⟩
 ·refine (works_yield A b ka kb kcc kd2 kn ky m0 m2 m3 m4 m5 m6 aw nw cw sp aT aP aL mT mP mL cT cP cL p.x p.y p.S p.K p.K.yield.2 p.K.yield.1 p.Z w rx ry hd (fun w1 bw=>A.yield p.x p.S p.K n w1 (h.lg.now.below bw) (A.kept rx (Fr.of_below bw (fun _=>False)) (fun _ _ h=>h)) ok (by omega)) (fun w2 ry2=>refRuns.yield p.y p.Z p.K n w2 trivial ry2 ok (by omega))).mono ?_
  rintro e w' ⟨rfl,hB⟩
  exact ⟨rfl,step_both A h hp ok.yield hB⟩
 ·refine (works_load A b ka kb kcc kd2 kn ky m0 m2 m3 m4 m5 m6 aw nw cw sp aT aP aL mT mP mL cT cP cL p.x p.y p.S p.K p.Z n w rx ry ok h.lg.now).mono ?_
  rintro e w' ⟨rfl,hb⟩
  exact ⟨rfl,step_below A h (by omega) hb⟩
 ·refine (works_store A b ka kb kcc kd2 kn ky m0 m2 m3 m4 m5 m6 aw nw cw sp aT aP aL mT mP mL cT cP cL p.x p.y p.S p.K (p.K.stored kb kcc kn) (p.K.touch kb kcc 2).2 p.Z w rx ry hd (fun w1 bw=>A.store p.x p.S p.K n kb kcc kn w1 (h.lg.now.below bw) (A.kept rx (Fr.of_below bw (fun _=>False)) (fun _ _ h=>h)) ok) (fun w2 ry2=>refRuns.store p.y p.Z p.K n kb kcc kn w2 trivial ry2 ok)).mono ?_
  rintro e w' ⟨rfl,hB⟩
  exact ⟨rfl,step_both A h hp (ok.stored kb kcc kn) hB⟩
 ·refine (works_unmap A b ka kb kcc kd2 kn ky m0 m2 m3 m4 m5 m6 aw nw cw sp aT aP aL mT mP mL cT cP cL p.x p.y p.S p.K (p.K.unmap kb ky).2 (p.K.unmap kb ky).1 p.Z w rx ry hd (fun w1 bw=>A.unmap p.x p.S p.K n kb ky w1 (h.lg.now.below bw) (A.kept rx (Fr.of_below bw (fun _=>False)) (fun _ _ h=>h)) ok) (fun w2 ry2=>refRuns.unmap p.y p.Z p.K n kb ky w2 trivial ry2 ok)).mono ?_
  rintro e w' ⟨rfl,hB⟩
  exact ⟨rfl,step_both A h hp (ok.unmap kb ky) hB⟩
 ·refine (works_derive A b ka kb kcc kd2 kn ky m0 m2 m3 m4 m5 m6 aw nw cw sp aT aP aL mT mP mL cT cP cL p.x p.y p.S p.K (p.K.derive kb kcc kd2).2 (p.K.derive kb kcc kd2).1 p.Z w rx ry hd (fun w1 bw=>A.derive p.x p.S p.K n kb kcc kd2 w1 (h.lg.now.below bw) (A.kept rx (Fr.of_below bw (fun _=>False)) (fun _ _ h=>h)) ok) (fun w2 ry2=>refRuns.derive p.y p.Z p.K n kb kcc kd2 w2 trivial ry2 ok)).mono ?_
  rintro e w' ⟨rfl,hB⟩
  exact ⟨rfl,step_both A h hp (ok.derive kb kcc kd2) hB⟩
 ·refine (works_drop A b ka kb kcc kd2 kn ky m0 m2 m3 m4 m5 m6 aw nw cw sp aT aP aL mT mP mL cT cP cL p.x p.y p.S p.K (p.K.drop kb).2 (p.K.drop kb).1 p.Z w rx ry hd (fun w1 bw=>A.drop p.x p.S p.K n kb w1 (h.lg.now.below bw) (A.kept rx (Fr.of_below bw (fun _=>False)) (fun _ _ h=>h)) ok) (fun w2 ry2=>refRuns.drop p.y p.Z p.K n kb w2 trivial ry2 ok)).mono ?_
  rintro e w' ⟨rfl,hB⟩
  exact ⟨rfl,step_both A h hp (ok.drop kb) hB⟩
 ·refine (works_look A b ka kb kcc kd2 kn ky m0 m2 m3 m4 m5 m6 aw nw cw sp aT aP aL mT mP mL cT cP cL p.x p.y p.S p.K p.Z n w rx ry ok h.lg.now ps (lv 1) (lv 2) (lv 3) (rows 1) h.lb.now (h.lj 1 (by omega) (by omega)).now (by have:=h.nj 1 (by omega) (by omega);omega) (fun e=>by have:=h.cj 1 (by omega) (by omega) b e;have:=h.cb;omega)).mono ?_
  rintro e w' ⟨rfl,x,u,v1,v2,v3,w0,b0,vk,bk⟩
  have h0:=h.below A (o':=fun k=>if k < w.heap.size then o k else 6) b0 (fun k hk=>if_pos hk)
  have hB:=h0.book A (m:=n+1) (by omega) (j:=1) (by omega) (by omega) (by have:=h.nj 1 (by omega) (by omega);omega) (cv:=6) (.inl rfl) (fun k e=>if_neg (by have:=vk k e;omega)) (fun k e=>(vk k e).2) bk
  refine ⟨rfl,_,_,_,_,_,hB,Nat.le_refl _,by omega,fun q hl=>(hl.belowStay b0 (o':=fun k=>if k < w.heap.size then o k else 6) (fun k hk=>if_pos hk)).kept bk.fr (fun k hk ht=>?_) (fun k hk e=>oBook_old hk e (by omega))⟩
  rcases ht with rfl | ht | ht
  ·rw [h0.cb];omega
  ·simp only [if_neg (show ¬ k < w.heap.size by have:=vk k ht;omega)];omega
  ·rw [h0.cj 1 (by omega) (by omega) k ht];omega
 ·refine (works_space A b ka kb kcc kd2 kn ky m0 m2 m3 m4 m5 m6 aw nw cw sp aT aP aL mT mP mL cT cP cL p.x p.y p.S p.K p.Z n w rx ry ok h.lg.now ps (lv 1) (lv 2) (lv 3) (rows 2) (rows 3) h.lb.now (h.lj 2 (by omega) (by omega)).now (by have:=h.nj 2 (by omega) (by omega);omega) (h.lj 3 (by omega) (by omega)).now (by have:=h.nj 3 (by omega) (by omega);omega) (fun e=>by have:=h.cj 2 (by omega) (by omega) b e;have:=h.cb;omega) (fun e=>by have:=h.cj 3 (by omega) (by omega) b e;have:=h.cb;omega) (fun k e1 e2=>by have:=h.cj 2 (by omega) (by omega) k e1;have:=h.cj 3 (by omega) (by omega) k e2;omega)).mono ?_
  rintro e w' ⟨rfl,x,u,w0,b0,vk,ne,wm,pas',v1,v2,v3,lea',u1,u2,u3,bk,bk2⟩
  have ho:∀ k,k < w.heap.size->(fun k=>if k < w.heap.size then o k else if x.ownBlock=some k then 6 else 7) k=o k:=fun k hk=>if_pos hk
  have h0:=h.below A b0 ho
  have cx6:∀ k,x.ownBlock=some k->(fun k=>if k < w.heap.size then o k else if x.ownBlock=some k then 6 else 7) k=6:=fun k e=>by
   simp only [if_neg (show ¬ k < w.heap.size by have:=vk k (.inl e);omega),if_pos e]
  have cu7:∀ k,u.ownBlock=some k->(fun k=>if k < w.heap.size then o k else if x.ownBlock=some k then 6 else 7) k=7:=fun k e=>by
   simp only [if_neg (show ¬ k < w.heap.size by have:=vk k (.inr e);omega),if_neg (fun e2=>ne k e2 e)]
  have hB:=h0.book A (m:=n+1) (by omega) (j:=2) (by omega) (by omega) (by have:=h.nj 2 (by omega) (by omega);omega) (cv:=6) (.inl rfl) cx6 (fun k e=>(vk k (.inl e)).2) bk
  have cu7':∀ k,u.ownBlock=some k->oBook (fun k=>if k < w.heap.size then o k else if x.ownBlock=some k then 6 else 7) w0 6 2 pas' k=7:=fun k e=>oBook_old (vk k (.inr e)).2 (cu7 k e) (by omega)
  have hB2:=hB.book A (m:=n+1) (by omega) (j:=3) (by omega) (by omega) (by have:=h.nj 3 (by omega) (by omega);show (rows 3).length+1<=n+1;omega) (cv:=7) (.inr rfl) cu7' (fun k e=>Nat.lt_of_lt_of_le (vk k (.inr e)).2 bk.fr.size) bk2
  refine ⟨rfl,_,_,_,_,_,hB2,Nat.le_refl _,by omega,fun q hl=>((hl.belowStay b0 ho).kept bk.fr (fun k hk ht=>?_) (fun k hk e=>oBook_old hk e (by omega))).kept bk2.fr (fun k hk ht=>?_) (fun k hk e=>oBook_old hk e (by omega))⟩
  ·rcases ht with rfl | ht | ht
   ·rw [h0.cb];omega
   ·intro e;have:=(cx6 k ht).symm.trans e;omega
   ·rw [h0.cj 2 (by omega) (by omega) k ht];omega
  ·rcases ht with rfl | ht | ht
   ·rw [hB.cb];omega
   ·rw [cu7' k ht];omega
   ·rw [hB.cj 3 (by omega) (by omega) k ht];omega
end
open Go.RowKit Go.ChangeShapes Go.WideShapes Go.Deep
theorem inl_of_cells {w:World}{base:Nat}{a:Addr}{len cap s:Nat}(R:Nat->List Value) (hs:0 < s) (hl:len<=maxLen) (h:∀ i,i < len->w.cells? base (a.add (i*s)) s=some (R i)) (h1:∀ i,i < len->∀ u∈R i,u.oneCell'=true) :
  Inl w s (.slice (some a) len cap) ((List.range len).map R):=by
 have hR:∀ i,i < len->(R i).length=s:=fun i hi=>(World.cells?_some (h i hi)).2.1
 have hlen:∀ r∈(List.range len).map R,r.length=s:=by
  intro r hr
  obtain ⟨i,hi,rfl⟩:=List.mem_map.1 hr
  exact hR i (List.mem_range.1 hi)
 refine ⟨hlen,?_,some a,cap,by simp,by simpa using hl,?_⟩
 ·intro r hr u hu
  obtain ⟨i,hi,rfl⟩:=List.mem_map.1 hr
  exact h1 i (List.mem_range.1 hi) u hu
 ·by_cases h0:len=0
  ·left;subst h0;rfl
  ·right
   have c0:=(World.cells?_some (h 0 (by omega))).2.2 0 hs
   have hsp:a.spot=none:=by
    have hx:(R 0)[0]? = some ((R 0)[0]'(by rw [hR 0 (by omega)];exact hs)):=List.getElem?_eq_getElem _
    rw [hx] at c0
    have:=World.cell?_spot c0
    simpa [Addr.add] using this
   obtain ⟨b,off,sp⟩:=a
   simp only at hsp
   subst hsp
   refine ⟨b,off,rfl,fun j v hv=>?_⟩
   have hj:=(List.getElem?_eq_some_iff.1 hv).1
   rw [flatten_len _ hlen] at hj
   simp only [List.length_map,List.length_range] at hj
   have hq:j / s < len:=Nat.div_lt_of_lt_mul (by rw [Nat.mul_comm];exact hj)
   have hm:j % s < s:=Nat.mod_lt _ hs
   have e:j=j / s*s+j % s:=by rw [Nat.mul_comm];exact (Nat.div_add_mod j s).symm
   have hc:=(World.cells?_some (h (j / s) hq)).2.2 (j % s) hm
   rw [add_add,<- e,Addr.add_mid] at hc
   rw [hc]
   have hg:=flatten_get ((List.range len).map R) (j / s) (j % s) hlen (by simpa using hq) hm
   rw [<- e] at hg
   rw [hg] at hv
   simpa using hv
section
variable {H:Type}{enc:TypeId×Value->H}{w:World}{base:Nat}{sp:Nat->Bool}{held:Bool}
theorem wf64 {z:Int}(h:(Lit.int .i64 z).wf=true):-9223372036854775808<=z/\z<=9223372036854775807:=by
 simp [Lit.wf,IntKind.min,IntKind.max,IntKind.signed,IntKind.bits] at h
 omega
theorem two_ints {fuel:Nat}{cs:List Value}{x:DataW H×List MemPlace}(h:DataW.trod enc Tryz.prog w base sp held fuel 34 cs=some x):∃ p:Int×Int,cs=tRow p:=by
 obtain ⟨xs,n,_,_,hl,hx,hf⟩:=DataW.trod_struct Tryz.underlying34 h
 have hc:Tryz.prog.cellsOf 34=2:=by kernel_rfl
 have hc3:Tryz.prog.cellsOf 3=1:=by kernel_rfl
 rw [hc] at hl
 match cs,hl with
 | [c0,c1],_=>
  have f0:=hf 0 { name:= "Space",type:=3,offset:=0,embedded:=false,tag:= "",pkgPath:= "",byteOffset:=0 } rfl
  have f1:=hf 1 { name:= "Row",type:=3,offset:=1,embedded:=false,tag:= "",pkgPath:= "",byteOffset:=8 } rfl
  simp only [hc3,List.drop_zero,List.take_succ_cons,List.take_zero,List.drop_succ_cons] at f0 f1
  obtain ⟨y0,e0⟩:∃ y,xs[0]? = some y:=⟨_,List.getElem?_eq_getElem (by rw [hx];decide)⟩
  obtain ⟨y1,e1⟩:∃ y,xs[1]? = some y:=⟨_,List.getElem?_eq_getElem (by rw [hx];decide)⟩
  rw [e0] at f0
  rw [e1] at f1
  obtain ⟨a,ha,_⟩:=DataW.trod_int Tryz.underlying3 f0
  obtain ⟨b,hb,_⟩:=DataW.trod_int Tryz.underlying3 f1
  simp at ha hb
  subst ha hb
  exact ⟨(a,b),rfl⟩
theorem four_ints {t:TypeId}{f0 f1 f2 f3:Field}(ht:Tryz.prog.underlying t=some (.struct #[f0,f1,f2,f3])) (hc:Tryz.prog.cellsOf t=4) (h0:f0.type=3/\f0.offset=0) (h1:f1.type=3/\f1.offset=1) (h2:f2.type=3/\f2.offset=2) (h3:f3.type=3/\f3.offset=3)
  {fuel:Nat}{cs:List Value}{x:DataW H×List MemPlace}(h:DataW.trod enc Tryz.prog w base sp held fuel t cs=some x):∃ p:Int×Int×Int×Int,cs=qRow p:=by
 obtain ⟨xs,n,_,_,hl,hx,hf⟩:=DataW.trod_struct ht h
 have hc3:Tryz.prog.cellsOf 3=1:=by kernel_rfl
 rw [hc] at hl
 match cs,hl with
 | [c0,c1,c2,c3],_=>
  have g0:=hf 0 f0 rfl
  have g1:=hf 1 f1 rfl
  have g2:=hf 2 f2 rfl
  have g3:=hf 3 f3 rfl
  rw [h0.1,h0.2] at g0
  rw [h1.1,h1.2] at g1
  rw [h2.1,h2.2] at g2
  rw [h3.1,h3.2] at g3
  simp only [hc3,List.drop_zero,List.take_succ_cons,List.take_zero,List.drop_succ_cons] at g0 g1 g2 g3
  obtain ⟨y0,e0⟩:∃ y,xs[0]? = some y:=⟨_,List.getElem?_eq_getElem (by rw [hx];simp)⟩
  obtain ⟨y1,e1⟩:∃ y,xs[1]? = some y:=⟨_,List.getElem?_eq_getElem (by rw [hx];simp)⟩
  obtain ⟨y2,e2⟩:∃ y,xs[2]? = some y:=⟨_,List.getElem?_eq_getElem (by rw [hx];simp)⟩
  obtain ⟨y3,e3⟩:∃ y,xs[3]? = some y:=⟨_,List.getElem?_eq_getElem (by rw [hx];simp)⟩
  rw [e0] at g0
  rw [e1] at g1
  rw [e2] at g2
  rw [e3] at g3
  obtain ⟨a,ha,_⟩:=DataW.trod_int Tryz.underlying3 g0
  obtain ⟨b,hb,_⟩:=DataW.trod_int Tryz.underlying3 g1
  obtain ⟨c,hc,_⟩:=DataW.trod_int Tryz.underlying3 g2
  obtain ⟨d,hd,_⟩:=DataW.trod_int Tryz.underlying3 g3
  simp at ha hb hc hd
  subst ha hb hc hd
  exact ⟨(a,b,c,d),rfl⟩
theorem open_rows {α:Type} [Inhabited α] {t e:TypeId}{s bytes:Nat}(f:α->List Value) (ht:Tryz.prog.underlying t=some (.slice e)) (hc:Tryz.prog.cellsOf e=s) (hby:Tryz.prog.bytesOf e=bytes) (hs:0 < s) (hf:∀ (x:α),∀ u∈f x,u.oneCell'=true)
  (hop:∀ {fuel:Nat}{cs:List Value}{x:DataW H×List MemPlace},DataW.trod enc Tryz.prog w base sp held fuel e cs=some x->∃ p:α,cs=f p)
  {fuel:Nat}{cs:List Value}{x:DataW H×List MemPlace}(h:DataW.trod enc Tryz.prog w base sp held fuel t cs=some x) (hw:∀ q∈DataW.weights Tryz.prog t x.1,q<=reachBytes) :
  ∃ a m c,∃ T:List α,cs=[.slice a m c]/\T.length=m/\Inl w s (.slice a m c) (T.map f)/\m*bytes<=reachBytes:=by
 rcases open_slice ht h with ⟨rfl,rfl⟩ | ⟨a,len,cap,m,n,D,Pl,rfl,_,hl,hmx,hm,rfl,hx⟩
 ·exact ⟨none,0,0,[],rfl,rfl,⟨by simp,by simp,none,0,rfl,by simp,.inl rfl⟩,by simp⟩
 ·have hlm:len<=m:=by rw [hm];split <;> omega
  obtain ⟨F,hF⟩:=choose_lt (α:=α) (n:=len) (p:=fun i q=>w.cells? base (a.add (i*s)) s=some (f q)) (fun i hi=>by
   obtain ⟨cs',h1,h2⟩:=hx i (by omega)
   obtain ⟨q,rfl⟩:=hop h2
   rw [hc] at h1
   exact ⟨q,h1⟩)
  refine ⟨some a,len,cap,(List.range len).map F,rfl,by simp,?_,?_⟩
  ·rw [List.map_map]
   exact inl_of_cells (f ∘ F) hs (by omega) hF (fun i _=>hf (F i))
  ·have:=hw ((len+(m-len))*Tryz.prog.bytesOf e) (by
    simp only [DataW.weights,ht,List.length_map,List.length_range]
    exact List.mem_cons_self)
   rw [hby] at this
   refine Nat.le_trans (Nat.mul_le_mul_right _ (by omega)) this
theorem mem_each {P:Program}:∀ (ts:List TypeId) (ds:List (DataW H)) (i:Nat) (t:TypeId) (d:DataW H) (q:Nat),ts[i]? = some t->ds[i]? = some d->q∈DataW.weights P t d->q∈DataW.weightsEach P ts ds
 | [],_,i,t,d,q,h,_,_=>by simp at h
 | _ :: _,[],i,t,d,q,_,h,_=>by simp at h
 | t0 :: ts,d0 :: ds,0,t,d,q,h1,h2,h3=>by
  simp at h1 h2
  subst h1 h2
  simp only [DataW.weightsEach]
  exact List.mem_append_left _ h3
 | t0 :: ts,d0 :: ds,i+1,t,d,q,h1,h2,h3=>by
  simp at h1 h2
  simp only [DataW.weightsEach]
  exact List.mem_append_right _ (mem_each ts ds i t d q h1 h2 h3)
theorem mem_all {P:Program}{e:TypeId}:∀ (ds:List (DataW H)) (d:DataW H) (q:Nat),d∈ds->q∈DataW.weights P e d->q∈DataW.weightsAll P e ds
 | [],d,q,h,_=>by simp at h
 | d0 :: ds,d,q,h1,h2=>by
  simp only [DataW.weightsAll]
  rcases List.mem_cons.1 h1 with rfl | h1
  ·exact List.mem_append_left _ h2
  ·exact List.mem_append_right _ (mem_all ds d q h1 h2)
theorem t_one2 (p:Int×Int):∀ u∈tRow p,u.oneCell'=true:=by
 intro u hu;simp [tRow] at hu;rcases hu with rfl | rfl <;> rfl
theorem q_one2 (p:Int×Int×Int×Int):∀ u∈qRow p,u.oneCell'=true:=by
 intro u hu;simp [qRow] at hu;rcases hu with rfl | rfl | rfl | rfl <;> rfl
theorem open_config {fuel:Nat}{cs:List Value}{x:DataW H×List MemPlace}(h:DataW.trod enc Tryz.prog w base sp held fuel 32 cs=some x) (hw:∀ q∈DataW.weights Tryz.prog 32 x.1,q<=reachBytes) :
  ∃ (s:Int) (aT aP aL:Option Addr) (mT mP mL cT cP cL:Nat) (T:List (Int×Int)) (Q L:List (Int×Int×Int×Int)),cs=[.int .i64 s,.slice aT mT cT,.slice aP mP cP,.slice aL mL cL]/\T.length=mT/\Q.length=mP/\L.length=mL /\
   Inl w 2 (.slice aT mT cT) (T.map tRow)/\Inl w 4 (.slice aP mP cP) (Q.map qRow)/\Inl w 4 (.slice aL mL cL) (L.map qRow)/\mT*16<=reachBytes/\mP*32<=reachBytes/\mL*32<=reachBytes:=by
 obtain ⟨xs,n,_,rfl,hl,hx,hf⟩:=DataW.trod_struct Tryz.underlying32 h
 have hc:Tryz.prog.cellsOf 32=4:=by kernel_rfl
 have hc3:Tryz.prog.cellsOf 3=1:=by kernel_rfl
 have hc28:Tryz.prog.cellsOf 28=1:=by kernel_rfl
 have hc29:Tryz.prog.cellsOf 29=1:=by kernel_rfl
 have hc30:Tryz.prog.cellsOf 30=1:=by kernel_rfl
 rw [hc] at hl
 match cs,hl with
 | [c0,c1,c2,c3],_=>
  have g0:=hf 0 { name:= "Spaces",type:=3,offset:=0,embedded:=false,tag:= "",pkgPath:= "",byteOffset:=0 } rfl
  have g1:=hf 1 { name:= "Threads",type:=28,offset:=1,embedded:=false,tag:= "",pkgPath:= "",byteOffset:=8 } rfl
  have g2:=hf 2 { name:= "Passes",type:=29,offset:=2,embedded:=false,tag:= "",pkgPath:= "",byteOffset:=32 } rfl
  have g3:=hf 3 { name:= "Leaves",type:=30,offset:=3,embedded:=false,tag:= "",pkgPath:= "",byteOffset:=56 } rfl
  simp only [hc3,hc28,hc29,hc30,List.drop_zero,List.take_succ_cons,List.take_zero,List.drop_succ_cons] at g0 g1 g2 g3
  obtain ⟨y0,e0⟩:∃ y,xs[0]? = some y:=⟨_,List.getElem?_eq_getElem (by rw [hx];decide)⟩
  obtain ⟨y1,e1⟩:∃ y,xs[1]? = some y:=⟨_,List.getElem?_eq_getElem (by rw [hx];decide)⟩
  obtain ⟨y2,e2⟩:∃ y,xs[2]? = some y:=⟨_,List.getElem?_eq_getElem (by rw [hx];decide)⟩
  obtain ⟨y3,e3⟩:∃ y,xs[3]? = some y:=⟨_,List.getElem?_eq_getElem (by rw [hx];decide)⟩
  rw [e0] at g0
  rw [e1] at g1
  rw [e2] at g2
  rw [e3] at g3
  simp only [DataW.weights,Tryz.underlying32] at hw
  have wt:∀ (i:Nat) (t:TypeId) y,([3,28,29,30]:List TypeId)[i]? = some t->xs[i]? = some y->∀ q∈DataW.weights Tryz.prog t y.1,q<=reachBytes:=fun i t y hi hy q hq=>
   hw q (mem_each _ _ i t y.1 q hi (by rw [List.getElem?_map,hy];rfl) hq)
  obtain ⟨s,hs,_⟩:=DataW.trod_int Tryz.underlying3 g0
  obtain ⟨aT,mT,cT,T,eT,lT,iT,bT⟩:=open_rows (s:=2) (bytes:=16) tRow Tryz.underlying28 (by kernel_rfl) (by kernel_rfl) (by omega) t_one2 two_ints g1 (wt 1 28 y1 rfl e1)
  obtain ⟨aP,mP,cP,Q,eP,lP,iP,bP⟩:=open_rows (s:=4) (bytes:=32) qRow Tryz.underlying29 (by kernel_rfl) (by kernel_rfl) (by omega) q_one2 (four_ints Tryz.underlying55 (by kernel_rfl) ⟨rfl,rfl⟩ ⟨rfl,rfl⟩ ⟨rfl,rfl⟩ ⟨rfl,rfl⟩) g2 (wt 2 29 y2 rfl e2)
  obtain ⟨aL,mL,cL,L,eL,lL,iL,bL⟩:=open_rows (s:=4) (bytes:=32) qRow Tryz.underlying30 (by kernel_rfl) (by kernel_rfl) (by omega) q_one2 (four_ints Tryz.underlying67 (by kernel_rfl) ⟨rfl,rfl⟩ ⟨rfl,rfl⟩ ⟨rfl,rfl⟩ ⟨rfl,rfl⟩) g3 (wt 3 30 y3 rfl e3)
  simp at hs eT eP eL
  subst hs eT eP eL
  exact ⟨s,aT,aP,aL,mT,mP,mL,cT,cP,cL,T,Q,L,rfl,lT,lP,lL,iT,iP,iL,bT,bP,bL⟩
theorem one_int {fuel:Nat}{cs:List Value}{x:DataW H×List MemPlace}(h:DataW.trod enc Tryz.prog w base sp held fuel 2 cs=some x):∃ p:Int,cs=lnI p:=by
 obtain ⟨z,hz,_⟩:=DataW.trod_int Tryz.underlying2 h
 exact ⟨z,hz⟩
theorem i_one2 (p:Int):∀ u∈lnI p,u.oneCell'=true:=by
 intro u hu;simp [lnI] at hu;subst hu;rfl
theorem nil_slice {t e:TypeId}{fuel:Nat}{m c:Nat}{x:DataW H×List MemPlace}(ht:Tryz.prog.underlying t=some (.slice e)) (h:DataW.trod enc Tryz.prog w base sp held fuel t [.slice none m c]=some x):m=0/\c=0:=by
 rcases open_slice ht h with ⟨h1,_⟩ | ⟨a,len,cap,_,_,_,_,h1,_⟩
 ·simp at h1;exact h1
 ·simp at h1
theorem open_message {fuel:Nat}{cs:List Value}{x:DataW H×List MemPlace}(h:DataW.trod enc Tryz.prog w base sp held fuel 43 cs=some x) (hw:∀ q∈DataW.weights Tryz.prog 43 x.1,q<=reachBytes) :
  ∃ (m0 m2 m3 m4 m5 m6:Int) (aw:Option Addr) (nw cw:Nat) (W:List Int),cs=[.int .i64 m0,.slice aw nw cw,.int .i64 m2,.int .i64 m3,.int .i64 m4,.int .i64 m5,.int .i64 m6]/\W.length=nw/\Inl w 1 (.slice aw nw cw) (W.map lnI)/\nw*8<=reachBytes/\(aw=none->nw=0/\cw=0):=by
 obtain ⟨xs,n,_,rfl,hl,hx,hf⟩:=DataW.trod_struct Tryz.underlying43 h
 have hc:Tryz.prog.cellsOf 43=7:=by kernel_rfl
 have hc3:Tryz.prog.cellsOf 3=1:=by kernel_rfl
 have hc39:Tryz.prog.cellsOf 39=1:=by kernel_rfl
 rw [hc] at hl
 match cs,hl with
 | [c0,c1,c2,c3,c4,c5,c6],_=>
  have g0:=hf 0 { name:= "To",type:=3,offset:=0,embedded:=false,tag:= "",pkgPath:= "",byteOffset:=0 } rfl
  have g1:=hf 1 { name:= "Words",type:=39,offset:=1,embedded:=false,tag:= "",pkgPath:= "",byteOffset:=8 } rfl
  have g2:=hf 2 { name:= "Item",type:=3,offset:=2,embedded:=false,tag:= "",pkgPath:= "",byteOffset:=32 } rfl
  have g3:=hf 3 { name:= "Rights",type:=3,offset:=3,embedded:=false,tag:= "",pkgPath:= "",byteOffset:=40 } rfl
  have g4:=hf 4 { name:= "From",type:=3,offset:=4,embedded:=false,tag:= "",pkgPath:= "",byteOffset:=48 } rfl
  have g5:=hf 5 { name:= "Window",type:=3,offset:=5,embedded:=false,tag:= "",pkgPath:= "",byteOffset:=56 } rfl
  have g6:=hf 6 { name:= "Wait",type:=3,offset:=6,embedded:=false,tag:= "",pkgPath:= "",byteOffset:=64 } rfl
  simp only [hc3,hc39,List.drop_zero,List.take_succ_cons,List.take_zero,List.drop_succ_cons] at g0 g1 g2 g3 g4 g5 g6
  obtain ⟨y0,e0⟩:∃ y,xs[0]? = some y:=⟨_,List.getElem?_eq_getElem (by rw [hx];decide)⟩
  obtain ⟨y1,e1⟩:∃ y,xs[1]? = some y:=⟨_,List.getElem?_eq_getElem (by rw [hx];decide)⟩
  obtain ⟨y2,e2⟩:∃ y,xs[2]? = some y:=⟨_,List.getElem?_eq_getElem (by rw [hx];decide)⟩
  obtain ⟨y3,e3⟩:∃ y,xs[3]? = some y:=⟨_,List.getElem?_eq_getElem (by rw [hx];decide)⟩
  obtain ⟨y4,e4⟩:∃ y,xs[4]? = some y:=⟨_,List.getElem?_eq_getElem (by rw [hx];decide)⟩
  obtain ⟨y5,e5⟩:∃ y,xs[5]? = some y:=⟨_,List.getElem?_eq_getElem (by rw [hx];decide)⟩
  obtain ⟨y6,e6⟩:∃ y,xs[6]? = some y:=⟨_,List.getElem?_eq_getElem (by rw [hx];decide)⟩
  rw [e0] at g0
  rw [e1] at g1
  rw [e2] at g2
  rw [e3] at g3
  rw [e4] at g4
  rw [e5] at g5
  rw [e6] at g6
  obtain ⟨z0,h0,_⟩:=DataW.trod_int Tryz.underlying3 g0
  obtain ⟨z2,h2,_⟩:=DataW.trod_int Tryz.underlying3 g2
  obtain ⟨z3,h3,_⟩:=DataW.trod_int Tryz.underlying3 g3
  obtain ⟨z4,h4,_⟩:=DataW.trod_int Tryz.underlying3 g4
  obtain ⟨z5,h5,_⟩:=DataW.trod_int Tryz.underlying3 g5
  obtain ⟨z6,h6,_⟩:=DataW.trod_int Tryz.underlying3 g6
  simp at h0 h2 h3 h4 h5 h6
  subst h0 h2 h3 h4 h5 h6
  simp only [DataW.weights,Tryz.underlying43] at hw
  obtain ⟨aw,nw,cw,W,eW,lW,iW,bW⟩:=open_rows (s:=1) (bytes:=8) lnI Tryz.underlying39 (by kernel_rfl) (by kernel_rfl) (by omega) i_one2 one_int g1 (fun q hq=>hw q (mem_each _ _ 1 39 y1.1 q rfl (by rw [List.getElem?_map,e1];rfl) hq))
  have hn:aw=none->nw=0/\cw=0:=fun e=>by
   subst e
   rw [eW] at g1
   exact nil_slice Tryz.underlying39 g1
  simp at eW
  subst eW
  exact ⟨_,_,_,_,_,_,aw,nw,cw,W,rfl,lW,iW,bW,hn⟩
theorem open_op {fuel:Nat}{cs:List Value}{x:DataW H×List MemPlace}(h:DataW.trod enc Tryz.prog w base sp held fuel 87 cs=some x) (hw:∀ q∈DataW.weights Tryz.prog 87 x.1,q<=reachBytes):∃ v:OpV,cs=v.row/\v.Ok w:=by
 obtain ⟨xs,n,_,rfl,hl,hx,hf⟩:=DataW.trod_struct Tryz.underlying87 h
 have hc:Tryz.prog.cellsOf 87=18:=by kernel_rfl
 have hc3:Tryz.prog.cellsOf 3=1:=by kernel_rfl
 have hc2:Tryz.prog.cellsOf 2=1:=by kernel_rfl
 have hc4:Tryz.prog.cellsOf 4=1:=by kernel_rfl
 have hc43:Tryz.prog.cellsOf 43=7:=by kernel_rfl
 have hc32:Tryz.prog.cellsOf 32=4:=by kernel_rfl
 rw [hc] at hl
 match cs,hl with
 | [c0,c1,c2,c3,c4,c5,c6,c7,c8,c9,c10,c11,c12,c13,c14,c15,c16,c17],_=>
  have g0:=hf 0 { name:= "Kind",type:=3,offset:=0,embedded:=false,tag:= "",pkgPath:= "",byteOffset:=0 } rfl
  have g1:=hf 1 { name:= "A",type:=3,offset:=1,embedded:=false,tag:= "",pkgPath:= "",byteOffset:=8 } rfl
  have g2:=hf 2 { name:= "B",type:=3,offset:=2,embedded:=false,tag:= "",pkgPath:= "",byteOffset:=16 } rfl
  have g3:=hf 3 { name:= "C",type:=3,offset:=3,embedded:=false,tag:= "",pkgPath:= "",byteOffset:=24 } rfl
  have g4:=hf 4 { name:= "D",type:=3,offset:=4,embedded:=false,tag:= "",pkgPath:= "",byteOffset:=32 } rfl
  have g5:=hf 5 { name:= "N",type:=2,offset:=5,embedded:=false,tag:= "",pkgPath:= "",byteOffset:=40 } rfl
  have g6:=hf 6 { name:= "Yes",type:=4,offset:=6,embedded:=false,tag:= "",pkgPath:= "",byteOffset:=48 } rfl
  have g7:=hf 7 { name:= "M",type:=43,offset:=7,embedded:=false,tag:= "",pkgPath:= "",byteOffset:=56 } rfl
  have g8:=hf 8 { name:= "Config",type:=32,offset:=14,embedded:=false,tag:= "",pkgPath:= "",byteOffset:=128 } rfl
  simp only [hc3,hc2,hc4,hc43,hc32,List.drop_zero,List.take_succ_cons,List.take_zero,List.drop_succ_cons] at g0 g1 g2 g3 g4 g5 g6 g7 g8
  obtain ⟨y0,e0⟩:∃ y,xs[0]? = some y:=⟨_,List.getElem?_eq_getElem (by rw [hx];decide)⟩
  obtain ⟨y1,e1⟩:∃ y,xs[1]? = some y:=⟨_,List.getElem?_eq_getElem (by rw [hx];decide)⟩
  obtain ⟨y2,e2⟩:∃ y,xs[2]? = some y:=⟨_,List.getElem?_eq_getElem (by rw [hx];decide)⟩
  obtain ⟨y3,e3⟩:∃ y,xs[3]? = some y:=⟨_,List.getElem?_eq_getElem (by rw [hx];decide)⟩
  obtain ⟨y4,e4⟩:∃ y,xs[4]? = some y:=⟨_,List.getElem?_eq_getElem (by rw [hx];decide)⟩
  obtain ⟨y5,e5⟩:∃ y,xs[5]? = some y:=⟨_,List.getElem?_eq_getElem (by rw [hx];decide)⟩
  obtain ⟨y6,e6⟩:∃ y,xs[6]? = some y:=⟨_,List.getElem?_eq_getElem (by rw [hx];decide)⟩
  obtain ⟨y7,e7⟩:∃ y,xs[7]? = some y:=⟨_,List.getElem?_eq_getElem (by rw [hx];decide)⟩
  obtain ⟨y8,e8⟩:∃ y,xs[8]? = some y:=⟨_,List.getElem?_eq_getElem (by rw [hx];decide)⟩
  rw [e0] at g0
  rw [e1] at g1
  rw [e2] at g2
  rw [e3] at g3
  rw [e4] at g4
  rw [e5] at g5
  rw [e6] at g6
  rw [e7] at g7
  rw [e8] at g8
  simp only [DataW.weights,Tryz.underlying87] at hw
  obtain ⟨z0,h0,_⟩:=DataW.trod_int Tryz.underlying3 g0
  obtain ⟨z1,h1,_,w1⟩:=DataW.trod_int Tryz.underlying3 g1
  obtain ⟨z2,h2,_⟩:=DataW.trod_int Tryz.underlying3 g2
  obtain ⟨z3,h3,_⟩:=DataW.trod_int Tryz.underlying3 g3
  obtain ⟨z4,h4,_⟩:=DataW.trod_int Tryz.underlying3 g4
  obtain ⟨z5,h5,_⟩:=DataW.trod_int Tryz.underlying2 g5
  obtain ⟨z6,h6,_⟩:=DataW.trod_bool Tryz.underlying4 g6
  obtain ⟨m0,m2,m3,m4,m5,m6,aw,nw,cw,W,h7,lW,iW,bW,nW⟩:=open_message g7 (fun q hq=>hw q (mem_each _ _ 7 43 y7.1 q rfl (by rw [List.getElem?_map,e7];rfl) hq))
  obtain ⟨s,aT,aP,aL,mT,mP,mL,cT,cP,cL,T,Q,L,h8,lT,lP,lL,iT,iP,iL,bT,bP,bL⟩:=open_config g8 (fun q hq=>hw q (mem_each _ _ 8 32 y8.1 q rfl (by rw [List.getElem?_map,e8];rfl) hq))
  simp at h0 h1 h2 h3 h4 h5 h6 h7 h8
  obtain ⟨rfl,rfl,rfl,rfl,rfl,rfl,rfl⟩:=h7
  obtain ⟨rfl,rfl,rfl,rfl⟩:=h8
  subst h0 h1 h2 h3 h4 h5 h6
  unfold reachBytes at bT bP bL bW
  have hz:=wf64 w1
  exact ⟨⟨z0,z1,z2,z3,z4,z5,z6,m0,m2,m3,m4,m5,m6,aw,nw,cw,s,aT,aP,aL,mT,mP,mL,cT,cP,cL,T,Q,L,W⟩,rfl,⟨iT,iP,iL,lT,lP,lL,by simp only;omega,by simp only;omega,by simp only;omega,hz.1,hz.2,iW,lW,by simp only;omega,nW⟩⟩
end
open Go.ChangeShapes Go.WideShapes Go.RowKit Go.Deep
theorem Tryz.own:ownKnob Tryz.prog.godebug=none:=by kernel_rfl
theorem Tryz.laidOut:laidOutB Tryz.prog=true:=by kernel_rfl
theorem Tryz.et:Tryz.prog.globalNamed "errors.errorType"=some 0:=by kernel_rfl
theorem Tryz.rt:(Tryz.prog.cutTypes.find? (·.1 == "internal/reflectlite.rtype")).map (·.2)=some 257:=by kernel_rfl
theorem Tryz.oneRow:((List.range 326).filter fun t=>Tryz.prog.rowNamed t [101,114,114,111,114])=[114]:=by kernel_rfl
theorem Tryz.sizeT:Tryz.prog.types.size=326:=by kernel_rfl
theorem handle_of_laid {W:World}(h:laidMetH Tryz.prog Rows.bootsRow.laid W):Gl W:=by
 have h':laidMet Tryz.prog [("math/bits.deBruijn32tab",Rows.laid_math_bits_deBruijn32tab),("math/bits.deBruijn64tab",Rows.laid_math_bits_deBruijn64tab),("internal/strconv.uint64pow10",Rows.laid_internal_strconv_uint64pow10)] W/\handlesMet Tryz.prog [("errors.errorType",Rows.laid_errors_errorType)] W:=h
 obtain ⟨name,u,ty,e1,e2,e3,e4,e5⟩:=h'.2 _ (List.mem_singleton.2 rfl)
 have en:name=[101,114,114,111,114]:=(Option.some.inj e1).symm
 subst en
 obtain rfl:=Option.some.inj (Tryz.rt.symm.trans e2)
 have hm:ty∈(List.range 326).filter fun t=>Tryz.prog.rowNamed t [101,114,114,111,114]:=List.mem_filter.2 ⟨List.mem_range.2 (by rw [<- Tryz.sizeT];exact e3),e4⟩
 rw [Tryz.oneRow] at hm
 obtain rfl:=List.mem_singleton.1 hm
 have hh:typeHandle Tryz.prog 114=.pointer (some ⟨4,114,none⟩):=by kernel_rfl
 rw [hh] at e5
 unfold Gl
 simpa using World.var?_cell Tryz.et e5 0
instance:Inhabited OpV:=⟨⟨0,0,0,0,0,0,false,0,0,0,0,0,0,none,0,0,0,none,none,none,0,0,0,0,0,0,[],[],[],[]⟩⟩
theorem row_one (v:OpV):∀ u∈v.row,u.oneCell'=true:=by
 intro u hu
 simp [OpV.row] at hu
 rcases hu with rfl | rfl | rfl | rfl | rfl | rfl | rfl | rfl | rfl | rfl | rfl | rfl | rfl | rfl | rfl | rfl | rfl | rfl <;> rfl
theorem open_script {H:Type}{enc:TypeId×Value->H}{w:World}{base:Nat}{sp:Nat->Bool}{held:Bool}{fuel:Nat}{a:Option Addr}{len cap:Nat}{x:DataW H×List MemPlace}(h:DataW.trod enc Tryz.prog w base sp held fuel 22 [.slice a len cap]=some x) (hw:∀ q∈DataW.weights Tryz.prog 22 x.1,q<=reachBytes) :
  ∃ vs:List OpV,vs.length=len/\Inl w 18 (.slice a len cap) (vs.map OpV.row)/\(∀ (i:Nat) v,vs[i]? = some v->v.Ok w)/\len*208<=reachBytes:=by
 have hc:Tryz.prog.cellsOf 87=18:=by kernel_rfl
 have hby:Tryz.prog.bytesOf 87=208:=by kernel_rfl
 rcases open_slice Tryz.underlying22 h with ⟨e,rfl⟩ | ⟨a',len',cap',m,n,D,Pl,e,_,hl,hmx,hm,rfl,hx⟩
 ·simp at e
  obtain ⟨rfl,rfl,rfl⟩:=e
  exact ⟨[],rfl,⟨by simp,by simp,none,0,rfl,by simp,.inl rfl⟩,by simp,by simp⟩
 ·simp at e
  obtain ⟨rfl,rfl,rfl⟩:=e
  have hlm:len<=m:=by rw [hm];split <;> omega
  simp only [DataW.weights,Tryz.underlying22,List.length_map,List.length_range] at hw
  obtain ⟨F,hF⟩:=choose_lt (α:=OpV) (n:=len) (p:=fun i q=>w.cells? base (a'.add (i*18)) 18=some q.row/\q.Ok w) (fun i hi=>by
   obtain ⟨cs',h1,h2⟩:=hx i (by omega)
   obtain ⟨q,rfl,hq⟩:=open_op h2 (fun z hz=>hw z (List.mem_cons_of_mem _ (List.mem_append_left _ (mem_all _ (D i) z (List.mem_map.2 ⟨i,List.mem_range.2 hi,rfl⟩) hz))))
   rw [hc] at h1
   exact ⟨q,h1,hq⟩)
  refine ⟨(List.range len).map F,by simp,?_,?_,?_⟩
  ·rw [List.map_map]
   exact inl_of_cells (OpV.row ∘ F) (by omega) (by omega) (fun i hi=>(hF i hi).1) (fun i _=>row_one (F i))
  ·intro i v hv
   rw [List.getElem?_map] at hv
   rcases Nat.lt_or_ge i len with hi | hi
   ·rw [List.getElem?_range hi] at hv
    simp at hv
    rw [<- hv]
    exact (hF i hi).2
   ·rw [List.getElem?_eq_none (by simpa using hi)] at hv
    simp at hv
  ·have:=hw ((len+(m-len))*Tryz.prog.bytesOf 87) List.mem_cons_self
   rw [hby] at this
   exact Nat.le_trans (Nat.mul_le_mul_right _ (by omega)) this
theorem laid_met (os:Os) (args:Array Value):laidMetH Tryz.prog Rows.bootsRow.laid ((World.doorLaid Tryz.prog 200 os).forCall (fun _ _=>0) ⟨#[],args,[]⟩).memory:=
 laidMetH_of_parts (laidMet_of_run' 8 (by kernel_rfl) (by kernel_rfl)) (by kernel_rfl)
end Go.Proofs.YteejjgbeknnmeaaGreatDoor
