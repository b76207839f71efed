import Derived.Test.YteejjgbeknnmeaaGreatDoorH08
namespace Go.Proofs.YteejjgbeknnmeaaGreatDoor
open Go.RowKit
structure Ms where
 dst:Int
 words:List Int
 item:Int
 rt:Int
 frm:Int
 win:Int
 wait:Int
def isMs (n:Nat) (m:Ms):Bool:=inI m.dst (-1) 5 && (inI m.frm (-2) ((n:Int)-1) && (inI m.item (-1) 5 && (inI m.rt 0 3 && (inI m.win (-1) 5 && (decide ((m.words.length:Int)<=4) && (decide (-1<=m.wait) && (decide (0<=m.dst) || decide (-2 < m.frm))))))))
end Go.Proofs.YteejjgbeknnmeaaGreatDoor
