import Derived.Test.YteejjgbeknnmeaaGreatDoorJ18
import Derived.Test.YteejjgbeknnmeaaGreatDoorJ29
import Derived.Test.YteejjgbeknnmeaaGreatDoorJ13
import Derived.Test.YteejjgbeknnmeaaGreatDoorJ28
import Derived.Test.YteejjgbeknnmeaaGreatDoorJ27
set_option maxRecDepth 100000
set_option maxHeartbeats 20000000
namespace Go.Proofs.YteejjgbeknnmeaaGreatDoor
open Go.RowKit Go.BigFrame
theorem isMsg6 (x g c k l:Nat) (dst item rt frm win wait:Int) (sa:Option Addr) (sc:Nat) (w:World) (hc1:w.cell? ⟨x,1,none⟩=some (.slice (some ⟨g,0,none⟩) k c)) (_h6:k<=6) (lx:x < w.heap.size) (hw:IntKind.i64.wrap ((k:Int)-1)=(k:Int)-1) (f1:inI dst (-1) 5=true) (f2:decide ((l:Int)<=4)=true) (f3:inI item (-1) 5=true) (f4:inI rt 0 3=true) (f5:inI frm (-2) ((k:Int)-1)=true) (f6:inI win (-1) 5=false) :
  Calls Tryz.prog 84 #[.pointer (some ⟨x,0,none⟩),.agg #[.int .i64 dst,.slice sa l sc,.int .i64 item,.int .i64 rt,.int .i64 frm,.int .i64 win,.int .i64 wait]] w fun e w'=>e=.returned (.bool false)/\Below w.heap.size w w':=by
 have BX:Hid (Below w.heap.size w (w.alloc (.cells #[.int .i64 dst,.slice sa l sc,.int .i64 item,.int .i64 rt,.int .i64 frm,.int .i64 win,.int .i64 wait] 43))):=(Below.refl _ w).alloc (Nat.le_refl _) _
 go_enter Tryz.func84,Tryz.ntmps84
 go_wp2
 go_big_quiet ((go_at_call 132;first | with_reducible exact Calls.quiet_of_same (btw f1 _) | with_reducible exact Calls.quiet_of_same (btw f3 _) | with_reducible exact Calls.quiet_of_same (btw f4 _) | with_reducible exact Calls.quiet_of_same (btw f5 _) | with_reducible exact Calls.quiet_of_same (btw f6 _)))
 go_wp2
 go_ret
 exact ⟨rfl,below_drewN BX.out _⟩
theorem isMsg7 (x g c k l:Nat) (dst item rt frm win wait:Int) (sa:Option Addr) (sc:Nat) (w:World) (hc1:w.cell? ⟨x,1,none⟩=some (.slice (some ⟨g,0,none⟩) k c)) (_h6:k<=6) (lx:x < w.heap.size) (hw:IntKind.i64.wrap ((k:Int)-1)=(k:Int)-1) (f1:inI dst (-1) 5=true) (f2:decide ((l:Int)<=4)=true) (f3:inI item (-1) 5=true) (f4:inI rt 0 3=true) (f5:inI frm (-2) ((k:Int)-1)=true) (f6:inI win (-1) 5=true) (f7:decide (-1<=wait)=false) :
  Calls Tryz.prog 84 #[.pointer (some ⟨x,0,none⟩),.agg #[.int .i64 dst,.slice sa l sc,.int .i64 item,.int .i64 rt,.int .i64 frm,.int .i64 win,.int .i64 wait]] w fun e w'=>e=.returned (.bool false)/\Below w.heap.size w w':=by
 have BX:Hid (Below w.heap.size w (w.alloc (.cells #[.int .i64 dst,.slice sa l sc,.int .i64 item,.int .i64 rt,.int .i64 frm,.int .i64 win,.int .i64 wait] 43))):=(Below.refl _ w).alloc (Nat.le_refl _) _
 go_enter Tryz.func84,Tryz.ntmps84
 go_wp2
 go_big_quiet ((go_at_call 132;first | with_reducible exact Calls.quiet_of_same (btw f1 _) | with_reducible exact Calls.quiet_of_same (btw f3 _) | with_reducible exact Calls.quiet_of_same (btw f4 _) | with_reducible exact Calls.quiet_of_same (btw f5 _) | with_reducible exact Calls.quiet_of_same (btw f6 _)))
 go_wp2
 go_ret
 exact ⟨rfl,below_drewN BX.out _⟩
theorem isMsg8 (x g c k l:Nat) (dst item rt frm win wait:Int) (sa:Option Addr) (sc:Nat) (w:World) (hc1:w.cell? ⟨x,1,none⟩=some (.slice (some ⟨g,0,none⟩) k c)) (_h6:k<=6) (lx:x < w.heap.size) (hw:IntKind.i64.wrap ((k:Int)-1)=(k:Int)-1) (f1:inI dst (-1) 5=true) (f2:decide ((l:Int)<=4)=true) (f3:inI item (-1) 5=true) (f4:inI rt 0 3=true) (f5:inI frm (-2) ((k:Int)-1)=true) (f6:inI win (-1) 5=true) (f7:decide (-1<=wait)=true) (f8:(dst != -1)=true) :
  Calls Tryz.prog 84 #[.pointer (some ⟨x,0,none⟩),.agg #[.int .i64 dst,.slice sa l sc,.int .i64 item,.int .i64 rt,.int .i64 frm,.int .i64 win,.int .i64 wait]] w fun e w'=>e=.returned (.bool true)/\Below w.heap.size w w':=by
 have BX:Hid (Below w.heap.size w (w.alloc (.cells #[.int .i64 dst,.slice sa l sc,.int .i64 item,.int .i64 rt,.int .i64 frm,.int .i64 win,.int .i64 wait] 43))):=(Below.refl _ w).alloc (Nat.le_refl _) _
 go_enter Tryz.func84,Tryz.ntmps84
 go_wp2
 go_big_quiet ((go_at_call 132;first | with_reducible exact Calls.quiet_of_same (btw f1 _) | with_reducible exact Calls.quiet_of_same (btw f3 _) | with_reducible exact Calls.quiet_of_same (btw f4 _) | with_reducible exact Calls.quiet_of_same (btw f5 _) | with_reducible exact Calls.quiet_of_same (btw f6 _)))
 go_wp2
 go_ret
 exact ⟨rfl,below_drewN BX.out _⟩
theorem isMsg9 (x g c k l:Nat) (dst item rt frm win wait:Int) (sa:Option Addr) (sc:Nat) (w:World) (hc1:w.cell? ⟨x,1,none⟩=some (.slice (some ⟨g,0,none⟩) k c)) (_h6:k<=6) (lx:x < w.heap.size) (hw:IntKind.i64.wrap ((k:Int)-1)=(k:Int)-1) (f1:inI dst (-1) 5=true) (f2:decide ((l:Int)<=4)=true) (f3:inI item (-1) 5=true) (f4:inI rt 0 3=true) (f5:inI frm (-2) ((k:Int)-1)=true) (f6:inI win (-1) 5=true) (f7:decide (-1<=wait)=true) (f8:(dst != -1)=false) (f9:(frm != -2)=true) :
  Calls Tryz.prog 84 #[.pointer (some ⟨x,0,none⟩),.agg #[.int .i64 dst,.slice sa l sc,.int .i64 item,.int .i64 rt,.int .i64 frm,.int .i64 win,.int .i64 wait]] w fun e w'=>e=.returned (.bool true)/\Below w.heap.size w w':=by
 have BX:Hid (Below w.heap.size w (w.alloc (.cells #[.int .i64 dst,.slice sa l sc,.int .i64 item,.int .i64 rt,.int .i64 frm,.int .i64 win,.int .i64 wait] 43))):=(Below.refl _ w).alloc (Nat.le_refl _) _
 go_enter Tryz.func84,Tryz.ntmps84
 go_wp2
 go_big_quiet ((go_at_call 132;first | with_reducible exact Calls.quiet_of_same (btw f1 _) | with_reducible exact Calls.quiet_of_same (btw f3 _) | with_reducible exact Calls.quiet_of_same (btw f4 _) | with_reducible exact Calls.quiet_of_same (btw f5 _) | with_reducible exact Calls.quiet_of_same (btw f6 _)))
 go_wp2
 go_ret
 exact ⟨rfl,below_drewN BX.out _⟩
theorem isMsg10 (x g c k l:Nat) (dst item rt frm win wait:Int) (sa:Option Addr) (sc:Nat) (w:World) (hc1:w.cell? ⟨x,1,none⟩=some (.slice (some ⟨g,0,none⟩) k c)) (_h6:k<=6) (lx:x < w.heap.size) (hw:IntKind.i64.wrap ((k:Int)-1)=(k:Int)-1) (f1:inI dst (-1) 5=true) (f2:decide ((l:Int)<=4)=true) (f3:inI item (-1) 5=true) (f4:inI rt 0 3=true) (f5:inI frm (-2) ((k:Int)-1)=true) (f6:inI win (-1) 5=true) (f7:decide (-1<=wait)=true) (f8:(dst != -1)=false) (f9:(frm != -2)=false) :
  Calls Tryz.prog 84 #[.pointer (some ⟨x,0,none⟩),.agg #[.int .i64 dst,.slice sa l sc,.int .i64 item,.int .i64 rt,.int .i64 frm,.int .i64 win,.int .i64 wait]] w fun e w'=>e=.returned (.bool false)/\Below w.heap.size w w':=by
 have BX:Hid (Below w.heap.size w (w.alloc (.cells #[.int .i64 dst,.slice sa l sc,.int .i64 item,.int .i64 rt,.int .i64 frm,.int .i64 win,.int .i64 wait] 43))):=(Below.refl _ w).alloc (Nat.le_refl _) _
 go_enter Tryz.func84,Tryz.ntmps84
 go_wp2
 go_big_quiet ((go_at_call 132;first | with_reducible exact Calls.quiet_of_same (btw f1 _) | with_reducible exact Calls.quiet_of_same (btw f3 _) | with_reducible exact Calls.quiet_of_same (btw f4 _) | with_reducible exact Calls.quiet_of_same (btw f5 _) | with_reducible exact Calls.quiet_of_same (btw f6 _)))
 go_wp2
 go_ret
 exact ⟨rfl,below_drewN BX.out _⟩
open Go.RowKit
theorem isMessage_any (B:Bk) (S:Nat->Prop) (M:PM) (k:Nat) (m:Ms) (sa:Option Addr) (sc:Nat) (w:World) (h:PRep w B S M) (hk:M.threads.length=k) (h6:k<=6) :
  Calls Tryz.prog 84 #[.pointer (some ⟨B.x,0,none⟩),.agg #[.int .i64 m.dst,.slice sa m.words.length sc,.int .i64 m.item,.int .i64 m.rt,.int .i64 m.frm,.int .i64 m.win,.int .i64 m.wait]] w fun e w'=>e=.returned (.bool (isMs k m))/\Below w.heap.size w w':=by
 obtain ⟨cs,rv,sl,h,hS⟩:=h
 have hc1:=(h.cell 1).trans h.c1
 rw [hk] at hc1
 have lx:=h.lx
 have hw:IntKind.i64.wrap ((k:Int)-1)=(k:Int)-1:=by
  have:k=0\/k=1\/k=2\/k=3\/k=4\/k=5\/k=6:=by omega
  rcases this with rfl | rfl | rfl | rfl | rfl | rfl | rfl <;> rfl
 cases f1:inI m.dst (-1) 5 with
 | false=>
  have e:isMs k m=false:=by unfold isMs;simp only [f1,Bool.false_and]
  rw [e];exact isMsg1 B.x B.g B.c k m.words.length m.dst m.item m.rt m.frm m.win m.wait sa sc w hc1 h6 lx hw f1
 | true=>
  cases f2:decide ((m.words.length:Int)<=4) with
  | false=>
   have e:isMs k m=false:=by unfold isMs;simp only [f1,f2,Bool.and_false,Bool.false_and]
   rw [e];exact isMsg2 B.x B.g B.c k m.words.length m.dst m.item m.rt m.frm m.win m.wait sa sc w hc1 h6 lx hw f1 f2
  | true=>
   cases f3:inI m.item (-1) 5 with
   | false=>
    have e:isMs k m=false:=by unfold isMs;simp only [f1,f2,f3,Bool.and_false,Bool.false_and,Bool.true_and]
    rw [e];exact isMsg3 B.x B.g B.c k m.words.length m.dst m.item m.rt m.frm m.win m.wait sa sc w hc1 h6 lx hw f1 f2 f3
   | true=>
    cases f4:inI m.rt 0 3 with
    | false=>
     have e:isMs k m=false:=by unfold isMs;simp only [f1,f2,f3,f4,Bool.and_false,Bool.false_and,Bool.true_and]
     rw [e];exact isMsg4 B.x B.g B.c k m.words.length m.dst m.item m.rt m.frm m.win m.wait sa sc w hc1 h6 lx hw f1 f2 f3 f4
    | true=>
     cases f5:inI m.frm (-2) ((k:Int)-1) with
     | false=>
      have e:isMs k m=false:=by unfold isMs;simp only [f1,f2,f3,f4,f5,Bool.and_false,Bool.false_and,Bool.true_and]
      rw [e];exact isMsg5 B.x B.g B.c k m.words.length m.dst m.item m.rt m.frm m.win m.wait sa sc w hc1 h6 lx hw f1 f2 f3 f4 f5
     | true=>
      cases f6:inI m.win (-1) 5 with
      | false=>
       have e:isMs k m=false:=by unfold isMs;simp only [f1,f2,f3,f4,f5,f6,Bool.and_false,Bool.false_and,Bool.true_and]
       rw [e];exact isMsg6 B.x B.g B.c k m.words.length m.dst m.item m.rt m.frm m.win m.wait sa sc w hc1 h6 lx hw f1 f2 f3 f4 f5 f6
      | true=>
       cases f7:decide (-1<=m.wait) with
       | false=>
        have e:isMs k m=false:=by unfold isMs;simp only [f1,f2,f3,f4,f5,f6,f7,Bool.and_false,Bool.false_and]
        rw [e];exact isMsg7 B.x B.g B.c k m.words.length m.dst m.item m.rt m.frm m.win m.wait sa sc w hc1 h6 lx hw f1 f2 f3 f4 f5 f6 f7
       | true=>
        cases f8:(m.dst != -1) with
        | true=>
         rw [msT f1 f2 f3 f4 f5 f6 f7 (.inl f8)];exact isMsg8 B.x B.g B.c k m.words.length m.dst m.item m.rt m.frm m.win m.wait sa sc w hc1 h6 lx hw f1 f2 f3 f4 f5 f6 f7 f8
        | false=>
         cases f9:(m.frm != -2) with
         | true=>
          rw [msT f1 f2 f3 f4 f5 f6 f7 (.inr f9)];exact isMsg9 B.x B.g B.c k m.words.length m.dst m.item m.rt m.frm m.win m.wait sa sc w hc1 h6 lx hw f1 f2 f3 f4 f5 f6 f7 f8 f9
         | false=>
          rw [msF f8 f9];exact isMsg10 B.x B.g B.c k m.words.length m.dst m.item m.rt m.frm m.win m.wait sa sc w hc1 h6 lx hw f1 f2 f3 f4 f5 f6 f7 f8 f9
open Go.RowKit
theorem msgOk:MsgOk:=fun B S M k m sa sc w h hk h6=>isMessage_any B S M k m sa sc w h hk h6
theorem apM:ApM ProgRep where
 kept:=by
  rintro w w' x S T K ⟨B,rfl,h⟩ hf hn
  exact ⟨B,rfl,h.kept hf hn⟩
 lt:=by
  rintro w x S K ⟨B,rfl,h⟩
  exact h.ltS
 current:=by
  rintro x S K n w ⟨B,rfl,h⟩ ok
  exact fCurrent_any B S K n w h ok
 tick:=by
  rintro x S K n w ⟨B,rfl,h⟩ ok hn
  exact (fTick_any B S K n w h ok hn).mono (by rintro e w' ⟨rfl,L⟩;exact ⟨rfl,L.left⟩)
 ipc:=by
  rintro x S K n m sa sc w hg ⟨B,rfl,h⟩ ok hn hI hN
  exact (fIpc_any msgOk B S K n m sa sc w hg h ok hI hN).mono (by rintro e w' ⟨rfl,L⟩;exact ⟨rfl,L.left⟩)
 yield:=by
  rintro x S K n w hg ⟨B,rfl,h⟩ ok hn
  exact (fYield_any B S K n w hg h ok).mono (by rintro e w' ⟨rfl,L⟩;exact ⟨rfl,L.left⟩)
 load:=by
  rintro x S K n pg ce w hg ⟨B,rfl,h⟩ ok
  exact fLoad_any B S K n w pg ce hg h ok
 store:=by
  rintro x S K n pg ce v w hg ⟨B,rfl,h⟩ ok
  exact (fStore_any B S K n w pg ce v hg h ok).mono (by rintro e w' ⟨rfl,L⟩;exact ⟨rfl,L.left⟩)
 unmap:=by
  rintro x S K n pg own w hg ⟨B,rfl,h⟩ ok
  exact (fUnmap_any B S K n w pg own hg h ok).mono (by rintro e w' ⟨rfl,L⟩;exact ⟨rfl,L.left⟩)
 derive:=by
  rintro x S K n a b r w hg ⟨B,rfl,h⟩ ok
  exact (fDerive_any B S K n w a b r hg h ok).mono (by rintro e w' ⟨rfl,L⟩;exact ⟨rfl,L.left⟩)
 drop:=by
  rintro x S K n a w hg ⟨B,rfl,h⟩ ok
  exact (fDrop_any B S K n w a hg h ok).mono (by rintro e w' ⟨rfl,L⟩;exact ⟨rfl,L.left⟩)
 new_no:=fun sp vT vP vL T Q L w hg iT iP iL hf=>fNew_no sp vT vP vL T Q L w hg iT iP iL hf
 new_yes:=fun sp vT vP vL T Q L w iT iP iL hf=>fNew_yes sp vT vP vL T Q L w iT iP iL hf
 look_no:=by
  rintro x S K n t w hg ⟨B,rfl,h⟩ ok ht
  exact (fLook_no B S K n w t hg h ok ht).mono (by rintro e w' ⟨v,rfl,L⟩;exact ⟨v,rfl,L.1,L.2.1,L.2.2⟩)
 look_yes:=by
  rintro x S K n t u w ⟨B,rfl,h⟩ ok hu
  exact (fLook_yes B S K n w t u h ok hu).mono (by rintro e w' ⟨v,rfl,L⟩;exact ⟨v,rfl,L.1,L.2.1,L.2.2⟩)
 space_no:=by
  rintro x S K n t w hg ⟨B,rfl,h⟩ ok ht
  exact (fSpace_no B S K n t w hg h ok ht).mono (by rintro e w' ⟨rfl,b⟩;exact ⟨_,_,rfl,Sl.nil _ _ _,Sl.nil _ _ _,b,fun b hb=>by simp [Value.ownBlock] at hb,fun b hb=>by simp [Value.ownBlock] at hb⟩)
 space_yes:=by
  rintro x S K n t w ⟨B,rfl,h⟩ ok t0 t1
  obtain ⟨t,rfl⟩:=Int.eq_ofNat_of_zero_le t0
  exact (fSpace_yes B S K n t w h ok t1).mono (by rintro e w' ⟨av,nv,cv,au,nu,cu,rfl,N⟩;exact ⟨_,_,rfl,N.vs,N.us,N.below,N.new,N.ne⟩)
end Go.Proofs.YteejjgbeknnmeaaGreatDoor
