/- The program's Type as plain data; how they lie in memory. -/
import Derived.Test.YtbnfdjhcakimhaaZDvW
import Derived.Test.YtbnfdjhcakimhaaZDvS
namespace Go.Proofs.Ytbnfdjhcakimhaa
open Go.RowKit Go.Lib

inductive TypeX where
  | mk (kind_ : Int) (name_ : ByteArray) (args_ : List TypeX)
def TypeX.kind_ : TypeX → Int | .mk kind_ _ _ => kind_
def TypeX.name_ : TypeX → ByteArray | .mk _ name_ _ => name_
def TypeX.args_ : TypeX → List TypeX | .mk _ _ args_ => args_
end Go.Proofs.Ytbnfdjhcakimhaa
