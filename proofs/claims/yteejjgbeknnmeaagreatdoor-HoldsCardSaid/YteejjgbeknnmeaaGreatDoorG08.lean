import Derived.Test.YteejjgbeknnmeaaGreatDoorG07
set_option maxRecDepth 100000
set_option maxHeartbeats 20000000
namespace Go.Proofs.YteejjgbeknnmeaaGreatDoor
open Go.RowKit
structure Ms where
 dst:Int
 words:List Int
 item:Int
 rt:Int
 frm:Int
 win:Int
 wait:Int
def isMs (n:Nat) (m:Ms):Bool:=inI m.dst (-1) 5 && (inI m.frm (-2) ((n:Int)-1) && (inI m.item (-1) 5 && (inI m.rt 0 3 && (inI m.win (-1) 5 && (decide ((m.words.length:Int)<=4) && (decide (-1<=m.wait) && (decide (0<=m.dst) || decide (-2 < m.frm))))))))
theorem rmMessage_any (y:Nat) (K:RM) (vt vp vl:Value) (sl:List (Sv×Sv)) (m:Ms) (sa:Option Addr) (sc:Nat) (w:World) (h:RmAt w y K vt vp vl sl) (ft:K.Fit) :
  Calls Tryz.prog 98 #[.pointer (some ⟨y,0,none⟩),.agg #[.int .i64 m.dst,.slice sa m.words.length sc,.int .i64 m.item,.int .i64 m.rt,.int .i64 m.frm,.int .i64 m.win,.int .i64 m.wait]] w fun e w'=>e=.returned (.bool (isMs K.threads.length m))/\Below w.heap.size w w':=by
 obtain ⟨g,c,rfl,hgy,lg⟩:=h.open ft.one
 have c0:w.cell? ⟨y,0,none⟩=some (.slice (some ⟨g,0,none⟩) K.threads.length c):=(h.cell 0).trans rfl
 have ly:=h.ly
 have hb:=ft.six
 generalize K.threads.length=k at *
 have BX:Hid (Below w.heap.size w (w.alloc (.cells #[.int .i64 m.dst,.slice sa m.words.length sc,.int .i64 m.item,.int .i64 m.rt,.int .i64 m.frm,.int .i64 m.win,.int .i64 m.wait] 43)).drew):=((Below.refl _ w).alloc (Nat.le_refl _) _).drew
 clear h ft
 cases f1:inI m.dst (-1) 5 with
 | false=>
  have E:=hid (show isMs k m=false by simp [isMs,f1])
  go_enter Tryz.func98,Tryz.ntmps98
  go_wp2_with (go_at_call 106;refine (in_any _ _ _ _).mono ?_;rintro e w2 ⟨rfl,rfl⟩)
  go_region_with (go_at_call 106;refine (in_any _ _ _ _).mono ?_;rintro e w2 ⟨rfl,rfl⟩)
  all_goals
   go_wp2_with (go_at_call 106;refine (in_any _ _ _ _).mono ?_;rintro e w2 ⟨rfl,rfl⟩)
   go_ret
   exact ⟨by rw [E.out];rfl,BX.out⟩
 | true=>
  cases f2:inI m.frm (-2) ((k:Int)-1) with
  | false=>
   have E:=hid (show isMs k m=false by simp [isMs,f1,f2])
   go_enter Tryz.func98,Tryz.ntmps98
   go_wp2_with (go_at_call 106;refine (in_any _ _ _ _).mono ?_;rintro e w2 ⟨rfl,rfl⟩)
   go_region_with (go_at_call 106;refine (in_any _ _ _ _).mono ?_;rintro e w2 ⟨rfl,rfl⟩)
   all_goals
    go_wp2_with (go_at_call 106;refine (in_any _ _ _ _).mono ?_;rintro e w2 ⟨rfl,rfl⟩)
    go_ret
    exact ⟨by rw [E.out];rfl,BX.out⟩
  | true=>
   cases f3:inI m.item (-1) 5 with
   | false=>
    have E:=hid (show isMs k m=false by simp [isMs,f1,f2,f3])
    go_enter Tryz.func98,Tryz.ntmps98
    go_wp2_with (go_at_call 106;refine (in_any _ _ _ _).mono ?_;rintro e w2 ⟨rfl,rfl⟩)
    go_region_with (go_at_call 106;refine (in_any _ _ _ _).mono ?_;rintro e w2 ⟨rfl,rfl⟩)
    all_goals
     go_wp2_with (go_at_call 106;refine (in_any _ _ _ _).mono ?_;rintro e w2 ⟨rfl,rfl⟩)
     go_ret
     exact ⟨by rw [E.out];rfl,BX.out⟩
   | true=>
    cases f4:inI m.rt 0 3 with
    | false=>
     have E:=hid (show isMs k m=false by simp [isMs,f1,f2,f3,f4])
     go_enter Tryz.func98,Tryz.ntmps98
     go_wp2_with (go_at_call 106;refine (in_any _ _ _ _).mono ?_;rintro e w2 ⟨rfl,rfl⟩)
     go_region_with (go_at_call 106;refine (in_any _ _ _ _).mono ?_;rintro e w2 ⟨rfl,rfl⟩)
     all_goals
      go_wp2_with (go_at_call 106;refine (in_any _ _ _ _).mono ?_;rintro e w2 ⟨rfl,rfl⟩)
      go_ret
      exact ⟨by rw [E.out];rfl,BX.out⟩
    | true=>
     cases f5:inI m.win (-1) 5 with
     | false=>
      have E:=hid (show isMs k m=false by simp [isMs,f1,f2,f3,f4,f5])
      go_enter Tryz.func98,Tryz.ntmps98
      go_wp2_with (go_at_call 106;refine (in_any _ _ _ _).mono ?_;rintro e w2 ⟨rfl,rfl⟩)
      go_region_with (go_at_call 106;refine (in_any _ _ _ _).mono ?_;rintro e w2 ⟨rfl,rfl⟩)
      all_goals
       go_wp2_with (go_at_call 106;refine (in_any _ _ _ _).mono ?_;rintro e w2 ⟨rfl,rfl⟩)
       go_ret
       exact ⟨by rw [E.out];rfl,BX.out⟩
     | true=>
      cases f6:decide ((m.words.length:Int)<=4) with
      | false=>
       have E:=hid (show isMs k m=false by simp [isMs,f1,f2,f3,f4,f5,f6])
       go_enter Tryz.func98,Tryz.ntmps98
       go_wp2_with (go_at_call 106;refine (in_any _ _ _ _).mono ?_;rintro e w2 ⟨rfl,rfl⟩)
       go_region_with (go_at_call 106;refine (in_any _ _ _ _).mono ?_;rintro e w2 ⟨rfl,rfl⟩)
       all_goals
        go_wp2_with (go_at_call 106;refine (in_any _ _ _ _).mono ?_;rintro e w2 ⟨rfl,rfl⟩)
        go_ret
        exact ⟨by rw [E.out];rfl,BX.out⟩
      | true=>
       cases f7:decide (-1<=m.wait) with
       | false=>
        have E:=hid (show isMs k m=false by simp [isMs,f1,f2,f3,f4,f5,f6,f7])
        go_enter Tryz.func98,Tryz.ntmps98
        go_wp2_with (go_at_call 106;refine (in_any _ _ _ _).mono ?_;rintro e w2 ⟨rfl,rfl⟩)
        go_region_with (go_at_call 106;refine (in_any _ _ _ _).mono ?_;rintro e w2 ⟨rfl,rfl⟩)
        all_goals
         go_wp2_with (go_at_call 106;refine (in_any _ _ _ _).mono ?_;rintro e w2 ⟨rfl,rfl⟩)
         go_ret
         exact ⟨by rw [E.out];rfl,BX.out⟩
       | true=>
        cases f8:decide (0<=m.dst) with
        | true=>
         have E:=hid (show isMs k m=true by simp [isMs,f1,f2,f3,f4,f5,f6,f7,f8])
         go_enter Tryz.func98,Tryz.ntmps98
         go_wp2_with (go_at_call 106;refine (in_any _ _ _ _).mono ?_;rintro e w2 ⟨rfl,rfl⟩)
         go_region_with (go_at_call 106;refine (in_any _ _ _ _).mono ?_;rintro e w2 ⟨rfl,rfl⟩)
         all_goals
          go_wp2_with (go_at_call 106;refine (in_any _ _ _ _).mono ?_;rintro e w2 ⟨rfl,rfl⟩)
          go_ret
          exact ⟨by rw [E.out];rfl,BX.out⟩
        | false=>
         cases f9:decide (-2 < m.frm) with
         | true=>
          have E:=hid (show isMs k m=true by simp [isMs,f1,f2,f3,f4,f5,f6,f7,f8,f9])
          go_enter Tryz.func98,Tryz.ntmps98
          go_wp2_with (go_at_call 106;refine (in_any _ _ _ _).mono ?_;rintro e w2 ⟨rfl,rfl⟩)
          go_region_with (go_at_call 106;refine (in_any _ _ _ _).mono ?_;rintro e w2 ⟨rfl,rfl⟩)
          all_goals
           go_wp2_with (go_at_call 106;refine (in_any _ _ _ _).mono ?_;rintro e w2 ⟨rfl,rfl⟩)
           go_ret
           exact ⟨by rw [E.out];rfl,BX.out⟩
         | false=>
          have E:=hid (show isMs k m=false by simp [isMs,f1,f2,f3,f4,f5,f6,f7,f8,f9])
          go_enter Tryz.func98,Tryz.ntmps98
          go_wp2_with (go_at_call 106;refine (in_any _ _ _ _).mono ?_;rintro e w2 ⟨rfl,rfl⟩)
          go_region_with (go_at_call 106;refine (in_any _ _ _ _).mono ?_;rintro e w2 ⟨rfl,rfl⟩)
          all_goals
           go_wp2_with (go_at_call 106;refine (in_any _ _ _ _).mono ?_;rintro e w2 ⟨rfl,rfl⟩)
           go_ret
           exact ⟨by rw [E.out];rfl,BX.out⟩
end Go.Proofs.YteejjgbeknnmeaaGreatDoor
