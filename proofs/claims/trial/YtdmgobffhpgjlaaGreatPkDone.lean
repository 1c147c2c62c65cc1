/-
  An act: its fields in memory; 'great', and 'done': the operation that an act tells.
-/
import Derived.Test.YtdmgobffhpgjlaaGreatPkHas
namespace Go.Proofs.YtdmgobffhpgjlaaGreat.Pk
open Go.RowKit Go.PlainAid Go.Maps
set_option linter.unusedVariables false
set_option maxRecDepth 20000
set_option linter.unusedSimpArgs false

/-- a call, as the law reads it; its numbers to keep stay a value -/
structure Ac where
  kind : Int
  name : ByteArray
  to : ByteArray
  s : ByteArray
  pos : Int
  n : Int
  b : Int
  kb : Option Addr
  kc : Nat
  ks : List Int
def Ac.cells (x : Ac) : Array Value := #[.int .i64 x.kind, .string x.name, .string x.to, .string x.s, .int .i64 x.pos, .int .i64 x.n, .int .i64 x.b, .slice x.kb x.ks.length x.kc]
structure Ac.Ok (x : Ac) : Prop where
  name : x.name.size ≤ 9223372036854775807
  to : x.to.size ≤ 9223372036854775807
  s : x.s.size ≤ 9223372036854775807
  pos : x.pos ≤ 9223372036854775807
  n : x.n ≤ 9223372036854775807
  b : x.b ≤ 9223372036854775807
end Go.Proofs.YtdmgobffhpgjlaaGreat.Pk
