import Derived.Test.YteejjgbeknnmeaaGreatDoorJ18
set_option maxRecDepth 100000
set_option maxHeartbeats 20000000
namespace Go.Proofs.YteejjgbeknnmeaaGreatDoor
open Go.RowKit Go.BigFrame
theorem isMsg1 (x g c k l:Nat) (dst item rt frm win wait:Int) (sa:Option Addr) (sc:Nat) (w:World) (_hc1:w.cell? ⟨x,1,none⟩=some (.slice (some ⟨g,0,none⟩) k c)) (_h6:k<=6) (_lx:x < w.heap.size) (_hw:IntKind.i64.wrap ((k:Int)-1)=(k:Int)-1) (f1:inI dst (-1) 5=false) :
  Calls Tryz.prog 84 #[.pointer (some ⟨x,0,none⟩),.agg #[.int .i64 dst,.slice sa l sc,.int .i64 item,.int .i64 rt,.int .i64 frm,.int .i64 win,.int .i64 wait]] w fun e w'=>e=.returned (.bool false)/\Below w.heap.size w w':=by
 have BX:Hid (Below w.heap.size w (w.alloc (.cells #[.int .i64 dst,.slice sa l sc,.int .i64 item,.int .i64 rt,.int .i64 frm,.int .i64 win,.int .i64 wait] 43))):=(Below.refl _ w).alloc (Nat.le_refl _) _
 go_enter Tryz.func84,Tryz.ntmps84
 go_wp2
 go_big_quiet ((go_at_call 132;first | with_reducible exact Calls.quiet_of_same (btw f1 _)))
 go_wp2
 go_ret
 exact ⟨rfl,below_drewN BX.out _⟩
theorem isMsg2 (x g c k l:Nat) (dst item rt frm win wait:Int) (sa:Option Addr) (sc:Nat) (w:World) (_hc1:w.cell? ⟨x,1,none⟩=some (.slice (some ⟨g,0,none⟩) k c)) (_h6:k<=6) (_lx:x < w.heap.size) (_hw:IntKind.i64.wrap ((k:Int)-1)=(k:Int)-1) (f1:inI dst (-1) 5=true) (f2:decide ((l:Int)<=4)=false) :
  Calls Tryz.prog 84 #[.pointer (some ⟨x,0,none⟩),.agg #[.int .i64 dst,.slice sa l sc,.int .i64 item,.int .i64 rt,.int .i64 frm,.int .i64 win,.int .i64 wait]] w fun e w'=>e=.returned (.bool false)/\Below w.heap.size w w':=by
 have BX:Hid (Below w.heap.size w (w.alloc (.cells #[.int .i64 dst,.slice sa l sc,.int .i64 item,.int .i64 rt,.int .i64 frm,.int .i64 win,.int .i64 wait] 43))):=(Below.refl _ w).alloc (Nat.le_refl _) _
 go_enter Tryz.func84,Tryz.ntmps84
 go_wp2
 go_big_quiet ((go_at_call 132;first | with_reducible exact Calls.quiet_of_same (btw f1 _)))
 go_wp2
 go_ret
 exact ⟨rfl,below_drewN BX.out _⟩
theorem isMsg3 (x g c k l:Nat) (dst item rt frm win wait:Int) (sa:Option Addr) (sc:Nat) (w:World) (_hc1:w.cell? ⟨x,1,none⟩=some (.slice (some ⟨g,0,none⟩) k c)) (_h6:k<=6) (_lx:x < w.heap.size) (_hw:IntKind.i64.wrap ((k:Int)-1)=(k:Int)-1) (f1:inI dst (-1) 5=true) (f2:decide ((l:Int)<=4)=true) (f3:inI item (-1) 5=false) :
  Calls Tryz.prog 84 #[.pointer (some ⟨x,0,none⟩),.agg #[.int .i64 dst,.slice sa l sc,.int .i64 item,.int .i64 rt,.int .i64 frm,.int .i64 win,.int .i64 wait]] w fun e w'=>e=.returned (.bool false)/\Below w.heap.size w w':=by
 have BX:Hid (Below w.heap.size w (w.alloc (.cells #[.int .i64 dst,.slice sa l sc,.int .i64 item,.int .i64 rt,.int .i64 frm,.int .i64 win,.int .i64 wait] 43))):=(Below.refl _ w).alloc (Nat.le_refl _) _
 go_enter Tryz.func84,Tryz.ntmps84
 go_wp2
 go_big_quiet ((go_at_call 132;first | with_reducible exact Calls.quiet_of_same (btw f1 _) | with_reducible exact Calls.quiet_of_same (btw f3 _)))
 go_wp2
 go_ret
 exact ⟨rfl,below_drewN BX.out _⟩
theorem isMsg4 (x g c k l:Nat) (dst item rt frm win wait:Int) (sa:Option Addr) (sc:Nat) (w:World) (_hc1:w.cell? ⟨x,1,none⟩=some (.slice (some ⟨g,0,none⟩) k c)) (_h6:k<=6) (_lx:x < w.heap.size) (_hw:IntKind.i64.wrap ((k:Int)-1)=(k:Int)-1) (f1:inI dst (-1) 5=true) (f2:decide ((l:Int)<=4)=true) (f3:inI item (-1) 5=true) (f4:inI rt 0 3=false) :
  Calls Tryz.prog 84 #[.pointer (some ⟨x,0,none⟩),.agg #[.int .i64 dst,.slice sa l sc,.int .i64 item,.int .i64 rt,.int .i64 frm,.int .i64 win,.int .i64 wait]] w fun e w'=>e=.returned (.bool false)/\Below w.heap.size w w':=by
 have BX:Hid (Below w.heap.size w (w.alloc (.cells #[.int .i64 dst,.slice sa l sc,.int .i64 item,.int .i64 rt,.int .i64 frm,.int .i64 win,.int .i64 wait] 43))):=(Below.refl _ w).alloc (Nat.le_refl _) _
 go_enter Tryz.func84,Tryz.ntmps84
 go_wp2
 go_big_quiet ((go_at_call 132;first | with_reducible exact Calls.quiet_of_same (btw f1 _) | with_reducible exact Calls.quiet_of_same (btw f3 _) | with_reducible exact Calls.quiet_of_same (btw f4 _)))
 go_wp2
 go_ret
 exact ⟨rfl,below_drewN BX.out _⟩
theorem isMsg5 (x g c k l:Nat) (dst item rt frm win wait:Int) (sa:Option Addr) (sc:Nat) (w:World) (hc1:w.cell? ⟨x,1,none⟩=some (.slice (some ⟨g,0,none⟩) k c)) (_h6:k<=6) (lx:x < w.heap.size) (hw:IntKind.i64.wrap ((k:Int)-1)=(k:Int)-1) (f1:inI dst (-1) 5=true) (f2:decide ((l:Int)<=4)=true) (f3:inI item (-1) 5=true) (f4:inI rt 0 3=true) (f5:inI frm (-2) ((k:Int)-1)=false) :
  Calls Tryz.prog 84 #[.pointer (some ⟨x,0,none⟩),.agg #[.int .i64 dst,.slice sa l sc,.int .i64 item,.int .i64 rt,.int .i64 frm,.int .i64 win,.int .i64 wait]] w fun e w'=>e=.returned (.bool false)/\Below w.heap.size w w':=by
 have BX:Hid (Below w.heap.size w (w.alloc (.cells #[.int .i64 dst,.slice sa l sc,.int .i64 item,.int .i64 rt,.int .i64 frm,.int .i64 win,.int .i64 wait] 43))):=(Below.refl _ w).alloc (Nat.le_refl _) _
 go_enter Tryz.func84,Tryz.ntmps84
 go_wp2
 go_big_quiet ((go_at_call 132;first | with_reducible exact Calls.quiet_of_same (btw f1 _) | with_reducible exact Calls.quiet_of_same (btw f3 _) | with_reducible exact Calls.quiet_of_same (btw f4 _) | with_reducible exact Calls.quiet_of_same (btw f5 _)))
 go_wp2
 go_ret
 exact ⟨rfl,below_drewN BX.out _⟩
end Go.Proofs.YteejjgbeknnmeaaGreatDoor
