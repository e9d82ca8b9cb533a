/- The laws' guard over Type: what is left of a measure. -/
import Derived.Test.YtbnfdjhcakimhaaZTypeD
import Derived.Test.YtbnfdjhcakimhaaProg
import Derived.Outline
namespace Go.Proofs.Ytbnfdjhcakimhaa
open Go.RowKit Go.Lib

end Go.Proofs.Ytbnfdjhcakimhaa
