import Derived.Test.YtgiiegppaleldaaGreatDoorRows
import Derived.StillTailTactics
import Derived.WalkKit
/- The region of plays that picks a kernel: no order of it but the text's own. -/
namespace Go.Proofs.YtgiiegppaleldaaGreatDoor
open Go.RowKit
abbrev ops16 : List Oper :=
  [{ dst := some 65, op := Op.move (Operand.tmp 5), type := 26, pos := "law.go:142", after := #[], guard := none },
      { dst := some 66, op := Op.move (Operand.tmp 0), type := 22, pos := "law.go:142", after := #[], guard := none },
      { dst := some 67, op := Op.move (Operand.tmp 7), type := 3, pos := "law.go:142", after := #[], guard := none },
      { dst := some 68, op := Op.indexAddr 22 (Operand.tmp 66) (Operand.tmp 67), type := 0, pos := "law.go:142",
        after := #[{ on := 1, ground := Ground.data }, { on := 2, ground := Ground.data }], guard := none },
      { dst := some 69, op := Op.load 46 (Operand.tmp 68), type := 46, pos := "law.go:142",
        after := #[{ on := 3, ground := Ground.data }], guard := none },
      { dst := some 70, op := Op.move (Operand.tmp 5), type := 26, pos := "law.go:142", after := #[], guard := none },
      { dst := some 71, op := Op.nilCheck (Operand.tmp 70), type := 0, pos := "law.go:142",
        after := #[{ on := 5, ground := Ground.data }], guard := none },
      { dst := some 72, op := Op.fieldAddr 34 (Operand.tmp 71) 0, type := 0, pos := "law.go:142",
        after := #[{ on := 6, ground := Ground.data }], guard := none },
      { dst := some 73, op := Op.load 27 (Operand.tmp 72), type := 27, pos := "law.go:142",
        after := #[{ on := 7, ground := Ground.data }], guard := none },
      { dst := some 74, op := Op.move (Operand.tmp 0), type := 22, pos := "law.go:142", after := #[], guard := none },
      { dst := some 75, op := Op.move (Operand.tmp 7), type := 3, pos := "law.go:142", after := #[], guard := none },
      { dst := some 76, op := Op.indexAddr 22 (Operand.tmp 74) (Operand.tmp 75), type := 0, pos := "law.go:142",
        after := #[{ on := 9, ground := Ground.data }, { on := 10, ground := Ground.data }], guard := none },
      { dst := some 77, op := Op.fieldAddr 46 (Operand.tmp 76) 1, type := 0, pos := "law.go:142",
        after := #[{ on := 11, ground := Ground.data }], guard := none },
      { dst := some 78, op := Op.load 3 (Operand.tmp 77), type := 3, pos := "law.go:142",
        after := #[{ on := 12, ground := Ground.data }], guard := none },
      { dst := some 79, op := Op.move (Operand.tmp 5), type := 26, pos := "law.go:142", after := #[], guard := none },
      { dst := some 80, op := Op.nilCheck (Operand.tmp 79), type := 0, pos := "law.go:142",
        after := #[{ on := 14, ground := Ground.data }], guard := none },
      { dst := some 81, op := Op.fieldAddr 34 (Operand.tmp 80) 0, type := 0, pos := "law.go:142",
        after := #[{ on := 15, ground := Ground.data }], guard := none },
      { dst := some 82, op := Op.load 27 (Operand.tmp 81), type := 27, pos := "law.go:142",
        after := #[{ on := 16, ground := Ground.data }], guard := none },
      { dst := some 83,
        op := Op.call { callee := Callee.builtin Builtin.len, args := #[Operand.tmp 82], argTypes := #[27] }, type := 3,
        pos := "law.go:142", after := #[{ on := 17, ground := Ground.data }], guard := none },
      { dst := some 84,
        op :=
          Op.call
            { callee := Callee.value (Operand.func 9), args := #[Operand.tmp 78, Operand.tmp 83], argTypes := #[3, 3] },
        type := 3, pos := "law.go:142",
        after := #[{ on := 13, ground := Ground.data }, { on := 18, ground := Ground.data }], guard := none },
      { dst := some 85, op := Op.indexAddr 27 (Operand.tmp 73) (Operand.tmp 84), type := 0, pos := "law.go:142",
        after := #[{ on := 8, ground := Ground.data }, { on := 19, ground := Ground.data }], guard := none },
      { dst := some 86, op := Op.load 51 (Operand.tmp 85), type := 51, pos := "law.go:142",
        after := #[{ on := 20, ground := Ground.data }], guard := none },
      { dst := some 87,
        op :=
          Op.call
            { callee := Callee.value (Operand.func 8), args := #[Operand.tmp 65, Operand.tmp 69, Operand.tmp 86],
              argTypes := #[26, 46, 51] },
        type := 4, pos := "law.go:142",
        after :=
          #[{ on := 0, ground := Ground.data }, { on := 4, ground := Ground.data }, { on := 21, ground := Ground.data },
            { on := 19, ground := Ground.chain }],
        guard := none },
      { dst := some 6, op := Op.assign (Operand.tmp 87), type := 4, pos := "law.go:142",
        after :=
          #[{ on := 22, ground := Ground.data }, { on := 22, ground := Ground.chain },
            { on := 0, ground := Ground.phase }, { on := 1, ground := Ground.phase },
            { on := 2, ground := Ground.phase }, { on := 3, ground := Ground.phase },
            { on := 4, ground := Ground.phase }, { on := 5, ground := Ground.phase },
            { on := 6, ground := Ground.phase }, { on := 7, ground := Ground.phase },
            { on := 8, ground := Ground.phase }, { on := 9, ground := Ground.phase },
            { on := 10, ground := Ground.phase }, { on := 11, ground := Ground.phase },
            { on := 12, ground := Ground.phase }, { on := 13, ground := Ground.phase },
            { on := 14, ground := Ground.phase }, { on := 15, ground := Ground.phase },
            { on := 16, ground := Ground.phase }, { on := 17, ground := Ground.phase },
            { on := 18, ground := Ground.phase }, { on := 19, ground := Ground.phase },
            { on := 20, ground := Ground.phase }, { on := 21, ground := Ground.phase },
            { on := 22, ground := Ground.phase }],
        guard := none }]
theorem mx : Tryz.prog.follows .mixedOrders = true := by kernel_rfl
theorem lex16 : Region.lexTailB .any (ops16).toArray 22 = true := by kernel_rfl
end Go.Proofs.YtgiiegppaleldaaGreatDoor
