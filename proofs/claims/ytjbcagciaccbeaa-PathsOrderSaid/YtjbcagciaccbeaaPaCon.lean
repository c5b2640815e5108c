/-
  What the calls of package paths answer, as values; the laws' small case.
-/
import Derived.Test.YtjbcagciaccbeaaPaStr
namespace Go.Proofs.Ytjbcagciaccbeaa
open Go.RowKit Sh Pth
namespace Pth
def cleanV : Option (List UInt8) → Value
  | none => .tuple #[.string (sb []), .bool false]
  | some p => .tuple #[.string (sb p), .bool true]
def markV : Option (Int × List UInt8) → Value
  | none => .tuple #[.int .i64 0, .string (sb []), .bool false]
  | some q => .tuple #[.int .i64 q.1, .string (sb q.2), .bool true]
end Pth
/-- A call's answer: a value, and nothing that was there is changed. -/
def Says (f : FuncId) (args : Array Value) (w : World) (v : Value) : Prop := Calls Try.prog f args w fun e w' => e = .returned v ∧ Hid (Below w.heap.size w w')
end Go.Proofs.Ytjbcagciaccbeaa
